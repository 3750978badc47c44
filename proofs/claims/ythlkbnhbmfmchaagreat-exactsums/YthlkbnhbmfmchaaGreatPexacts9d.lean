/- Walks of the document's Int. What each operation on whole numbers of the machine answers, for any kind and any numbers: the answer is named, and told by an equation. A number as an int of the machine, where it is one. Walks of Small: a number as an int of the machine. Walks of the document's Small. Walks of the order and the quotients of real numbers. -/
import Derived.Test.YthlkbnhbmfmchaaGreatPexacts9c
import Derived.Laws.Entries
import Derived.WalkKit
import Derived.Test.YthlkbnhbmfmchaaGreatPexacts9a
namespace Go.Proofs.YthlkbnhbmfmchaaGreat
open Go.RowKit
set_option linter.unusedVariables false
set_option linter.unusedSimpArgs false
set_option maxRecDepth 100000
theorem RfF_isS_26 : IsS Tryz.prog 26 6 := ⟨⟨_, Tryz.underlying26⟩, by kernel_rfl⟩
section
variable {P : Program} {t : TypeId} {a b : Operand}
theorem bin_addU {x y z : Nat} (hz : x + y = z) (h : z < 18446744073709551616) : ∀ w, (do eqGuard .add t a b (.int .u64 ((x : Nat) : Int)) (.int .u64 ((y : Nat) : Int)); binOp .add t (.int .u64 ((x : Nat) : Int)) (.int .u64 ((y : Nat) : Int)) : Sem Value).run P w = .ok (.int .u64 ((z : Nat) : Int)) w := fun w => by
  subst hz
  have e : IntKind.u64.wrap (((x : Nat) : Int) + ((y : Nat) : Int)) = ((x + y : Nat) : Int) := by rw [IntKind.wrap_u64]; omega
  simp [go_sem, e]
end
theorem rintP_any {w : World} {k : Nat} (hk : k ≤ 9223372036854775807) : Calls Tryz.prog 25 #[.int .i64 (((k : Nat) : Int))] w (AnsV w (Q6.whole false k)) := by
  have hS : St w w [] [] [] := St.start w
  refine walk_of (l := [(0, .int .i64 (((k : Nat) : Int)))]) Tryz.func25 rfl Tryz.ntmps25 rfl rfl ?_
  intro Q hret hnorm hP a hA
  refine wp_seq_k (fun K1 hK1 => ?_)
  refine wp_region_lit ?_
  refine seq_new (vs := [.bool false, .slice none 0 0, .slice none 0 0, .bool false, .slice none 0 0, .slice none 0 0]) (t := 26) hA hS rfl rfl rfl (fun g => .pointer (some ⟨g, 0, none⟩)) (does_alloc (z := .agg #[.bool false, .slice none 0 0, .slice none 0 0, .bool false, .slice none 0 0, .slice none 0 0]) (by kernel_rfl) rfl) rfl ?_
  intro g2 w3 hS a hA
  refine seq_end ?_
  refine hK1 _ _ ?_
  refine wp_seq_k (fun K4 hK4 => ?_)
  refine wp_region_lit ?_
  refine seq_do hA rfl rfl rfl (does_move rfl) ?_
  intro a hA
  refine seq_do (v := .int .u64 (((k : Nat) : Int))) hA rfl rfl rfl (does_convert rfl (conv_up Tryz.underlying3 Tryz.underlying61 (by omega))) ?_
  intro a hA
  refine seq_do hA rfl rfl rfl (does_assign rfl) ?_
  intro a hA
  refine seq_end ?_
  refine hK4 _ _ ?_
  refine wp_seq_k (fun K5 hK5 => ?_)
  refine wp_seq_k (fun K6 hK6 => ?_)
  refine wp_region_lit ?_
  refine seq_do hA rfl rfl rfl (does_move rfl) ?_
  intro a hA
  refine seq_do (v := .bool false) hA rfl rfl rfl (does_bin rfl rfl (fun w => (bin_lss w).trans (by rw [show (decide (((k : Nat) : Int) < 0)) = false from (decide_eq_false (by omega))]))) ?_
  intro a hA
  refine seq_end ?_
  refine hK6 _ _ ?_
  refine wp_cond_false (hA.ev rfl) ?_
  refine wp_skip ?_
  refine hK5 _ _ ?_
  refine wp_seq_k (fun K7 hK7 => ?_)
  refine wp_region_lit ?_
  refine seq_do hA rfl rfl rfl (does_move rfl) ?_
  intro a hA
  refine seq_do (v := .bool false) hA rfl rfl rfl (does_bin rfl rfl (fun w => (bin_lss w).trans (by rw [show (decide (((k : Nat) : Int) < 0)) = false from (decide_eq_false (by omega))]))) ?_
  intro a hA
  refine seq_do hA rfl rfl rfl (does_move rfl) ?_
  intro a hA
  refine seq_call hA rfl rfl rfl (enters_func  rfl rfl (fun w => by kernel_rfl)) (rof_any k _ (by omega)) ?_
  rintro _ w12 ⟨ro8, rc9, rfl, ho10, hb11⟩
  replace hS := hS.call hb11
  replace hS := hS.addR ho10.rd
  refine ⟨_, rfl, ?_⟩
  intro a hA
  refine seq_newU (us := [1]) (t := 66) (m := 1) hA hS rfl rfl rfl (does_buildSlice rfl (by kernel_rfl)) (by simp [Dig]) ?_
  intro g13 w14 hS a hA
  refine seq_do (v := .agg #[.bool false, .slice ro8 ((words k).length) rc9, .slice (some ⟨g13, 0, none⟩) 1 1]) hA rfl rfl rfl (does_build rfl (fun w => by kernel_rfl)) ?_
  intro a hA
  refine seq_call hA rfl rfl rfl (enters_func  rfl rfl (fun w => by kernel_rfl)) (rzero_any _) ?_
  rintro _ w19 ⟨f15_1, f15_c1, f15_2, f15_c2, rfl, hs16, hs17, hb18⟩
  replace hS := hS.call hb18
  replace hS := hS.addR hs16.rd
  replace hS := hS.addR hs17.rd
  refine ⟨_, rfl, ?_⟩
  intro a hA
  refine seq_do (v := .agg #[.bool false, .slice ro8 ((words k).length) rc9, .slice (some ⟨g13, 0, none⟩) 1 1, .bool false, .slice f15_1 0 f15_c1, .slice f15_2 1 f15_c2]) hA rfl rfl rfl (does_build rfl (fun w => by kernel_rfl)) ?_
  intro a hA
  refine seq_store (us := [.bool false, .slice ro8 ((words k).length) rc9, .slice (some ⟨g13, 0, none⟩) 1 1, .bool false, .slice f15_1 0 f15_c1, .slice f15_2 1 f15_c2]) hA hS rfl rfl (sets_store (cs := [.bool false, .slice ro8 ((words k).length) rc9, .slice (some ⟨g13, 0, none⟩) 1 1, .bool false, .slice f15_1 0 f15_c1, .slice f15_2 1 f15_c2]) rfl rfl rfl (by kernel_rfl) hS 0 rfl rfl rfl) 0 rfl rfl rfl rfl ?_
  intro w20 hS
  refine seq_end ?_
  refine hK7 _ _ ?_
  refine wp_ret ?_
  refine hret _ _ ?_
  refine ends (v := .agg #[.bool false, .slice ro8 ((words k).length) rc9, .slice (some ⟨g13, 0, none⟩) 1 1, .bool false, .slice f15_1 0 f15_c1, .slice f15_2 1 f15_c2]) hA rfl (.cons (res_cell hS RfF_isS_26 rfl 0 rfl (cs := [.bool false, .slice ro8 ((words k).length) rc9, .slice (some ⟨g13, 0, none⟩) 1 1, .bool false, .slice f15_1 0 f15_c1, .slice f15_2 1 f15_c2]) rfl rfl) .nil) rfl ?_
  exact ⟨ro8, rc9, some ⟨g13, 0, none⟩, 1, f15_1, f15_c1, f15_2, f15_c2, rfl, ⟨⟨(hS.rd 3 rfl), ho10.nocap, ho10.caps⟩, ⟨(hS.rd 2 rfl), (fun h => by cases h), (Nat.le_refl _)⟩, ⟨(hS.rd 1 rfl), hs16.nil, hs16.cap⟩, ⟨(hS.rd 0 rfl), hs17.nil, hs17.cap⟩⟩, hS.bel⟩
theorem rintN_any {w : World} {k : Nat} (hk : k ≤ 9223372036854775807) : Calls Tryz.prog 25 #[.int .i64 (-((k + 1 : Nat) : Int))] w (AnsV w (Q6.whole true (k + 1))) := by
  have hS : St w w [] [] [] := St.start w
  refine walk_of (l := [(0, .int .i64 (-((k + 1 : Nat) : Int)))]) Tryz.func25 rfl Tryz.ntmps25 rfl rfl ?_
  intro Q hret hnorm hP a hA
  refine wp_seq_k (fun K1 hK1 => ?_)
  refine wp_region_lit ?_
  refine seq_new (vs := [.bool false, .slice none 0 0, .slice none 0 0, .bool false, .slice none 0 0, .slice none 0 0]) (t := 26) hA hS rfl rfl rfl (fun g => .pointer (some ⟨g, 0, none⟩)) (does_alloc (z := .agg #[.bool false, .slice none 0 0, .slice none 0 0, .bool false, .slice none 0 0, .slice none 0 0]) (by kernel_rfl) rfl) rfl ?_
  intro g2 w3 hS a hA
  refine seq_end ?_
  refine hK1 _ _ ?_
  refine wp_seq_k (fun K4 hK4 => ?_)
  refine wp_region_lit ?_
  refine seq_do hA rfl rfl rfl (does_move rfl) ?_
  intro a hA
  refine seq_do (v := .int .u64 (((18446744073709551616 - (k + 1) : Nat) : Int))) hA rfl rfl rfl (does_convert rfl (conv_neg Tryz.underlying3 Tryz.underlying61 (by omega) (by omega))) ?_
  intro a hA
  refine seq_do hA rfl rfl rfl (does_assign rfl) ?_
  intro a hA
  refine seq_end ?_
  refine hK4 _ _ ?_
  refine wp_seq_k (fun K5 hK5 => ?_)
  refine wp_seq_k (fun K6 hK6 => ?_)
  refine wp_region_lit ?_
  refine seq_do hA rfl rfl rfl (does_move rfl) ?_
  intro a hA
  refine seq_do (v := .bool true) hA rfl rfl rfl (does_bin rfl rfl (fun w => (bin_lss w).trans (by rw [show (decide (-((k + 1 : Nat) : Int) < 0)) = true from (decide_eq_true (by omega))]))) ?_
  intro a hA
  refine seq_end ?_
  refine hK6 _ _ ?_
  refine wp_cond_true (hA.ev rfl) ?_
  refine wp_region_lit ?_
  refine seq_do hA rfl rfl rfl (does_move rfl) ?_
  intro a hA
  refine seq_do (v := .int .i64 (-((k : Nat) : Int))) hA rfl rfl rfl (does_bin rfl rfl (fun w => (bin_add (i64In (by omega) (by omega)) w).trans (by rw [show (-((k + 1 : Nat) : Int) + 1 : Int) = -((k : Nat) : Int) from by omega]))) ?_
  intro a hA
  refine seq_do (v := .int .i64 (((k : Nat) : Int))) hA rfl rfl rfl (does_un rfl (fun w => (un_neg (i64In (by omega) (by omega)) w).trans (by rw [show (-(-((k : Nat) : Int)) : Int) = ((k : Nat) : Int) from by omega]))) ?_
  intro a hA
  refine seq_do (v := .int .u64 (((k : Nat) : Int))) hA rfl rfl rfl (does_convert rfl (conv_up Tryz.underlying3 Tryz.underlying61 (by omega))) ?_
  intro a hA
  refine seq_do (v := .int .u64 (((k + 1 : Nat) : Int))) hA rfl rfl rfl (does_bin rfl rfl (bin_addU (x := k) (y := 1) rfl (by omega))) ?_
  intro a hA
  refine seq_do hA rfl rfl rfl (does_assign rfl) ?_
  intro a hA
  refine seq_end ?_
  refine hK5 _ _ ?_
  refine wp_seq_k (fun K7 hK7 => ?_)
  refine wp_region_lit ?_
  refine seq_do hA rfl rfl rfl (does_move rfl) ?_
  intro a hA
  refine seq_do (v := .bool true) hA rfl rfl rfl (does_bin rfl rfl (fun w => (bin_lss w).trans (by rw [show (decide (-((k + 1 : Nat) : Int) < 0)) = true from (decide_eq_true (by omega))]))) ?_
  intro a hA
  refine seq_do hA rfl rfl rfl (does_move rfl) ?_
  intro a hA
  refine seq_call hA rfl rfl rfl (enters_func  rfl rfl (fun w => by kernel_rfl)) (rof_any (k + 1) _ (by omega)) ?_
  rintro _ w12 ⟨ro8, rc9, rfl, ho10, hb11⟩
  replace hS := hS.call hb11
  replace hS := hS.addR ho10.rd
  refine ⟨_, rfl, ?_⟩
  intro a hA
  refine seq_newU (us := [1]) (t := 66) (m := 1) hA hS rfl rfl rfl (does_buildSlice rfl (by kernel_rfl)) (by simp [Dig]) ?_
  intro g13 w14 hS a hA
  refine seq_do (v := .agg #[.bool true, .slice ro8 ((words (k + 1)).length) rc9, .slice (some ⟨g13, 0, none⟩) 1 1]) hA rfl rfl rfl (does_build rfl (fun w => by kernel_rfl)) ?_
  intro a hA
  refine seq_call hA rfl rfl rfl (enters_func  rfl rfl (fun w => by kernel_rfl)) (rzero_any _) ?_
  rintro _ w19 ⟨f15_1, f15_c1, f15_2, f15_c2, rfl, hs16, hs17, hb18⟩
  replace hS := hS.call hb18
  replace hS := hS.addR hs16.rd
  replace hS := hS.addR hs17.rd
  refine ⟨_, rfl, ?_⟩
  intro a hA
  refine seq_do (v := .agg #[.bool true, .slice ro8 ((words (k + 1)).length) rc9, .slice (some ⟨g13, 0, none⟩) 1 1, .bool false, .slice f15_1 0 f15_c1, .slice f15_2 1 f15_c2]) hA rfl rfl rfl (does_build rfl (fun w => by kernel_rfl)) ?_
  intro a hA
  refine seq_store (us := [.bool true, .slice ro8 ((words (k + 1)).length) rc9, .slice (some ⟨g13, 0, none⟩) 1 1, .bool false, .slice f15_1 0 f15_c1, .slice f15_2 1 f15_c2]) hA hS rfl rfl (sets_store (cs := [.bool true, .slice ro8 ((words (k + 1)).length) rc9, .slice (some ⟨g13, 0, none⟩) 1 1, .bool false, .slice f15_1 0 f15_c1, .slice f15_2 1 f15_c2]) rfl rfl rfl (by kernel_rfl) hS 0 rfl rfl rfl) 0 rfl rfl rfl rfl ?_
  intro w20 hS
  refine seq_end ?_
  refine hK7 _ _ ?_
  refine wp_ret ?_
  refine hret _ _ ?_
  refine ends (v := .agg #[.bool true, .slice ro8 ((words (k + 1)).length) rc9, .slice (some ⟨g13, 0, none⟩) 1 1, .bool false, .slice f15_1 0 f15_c1, .slice f15_2 1 f15_c2]) hA rfl (.cons (res_cell hS RfF_isS_26 rfl 0 rfl (cs := [.bool true, .slice ro8 ((words (k + 1)).length) rc9, .slice (some ⟨g13, 0, none⟩) 1 1, .bool false, .slice f15_1 0 f15_c1, .slice f15_2 1 f15_c2]) rfl rfl) .nil) rfl ?_
  exact ⟨ro8, rc9, some ⟨g13, 0, none⟩, 1, f15_1, f15_c1, f15_2, f15_c2, rfl, ⟨⟨(hS.rd 3 rfl), ho10.nocap, ho10.caps⟩, ⟨(hS.rd 2 rfl), (fun h => by cases h), (Nat.le_refl _)⟩, ⟨(hS.rd 1 rfl), hs16.nil, hs16.cap⟩, ⟨(hS.rd 0 rfl), hs17.nil, hs17.cap⟩⟩, hS.bel⟩
end Go.Proofs.YthlkbnhbmfmchaaGreat
namespace Go.Proofs.YthlkbnhbmfmchaaGreat
open Go.RowKit
set_option linter.unusedVariables false
set_option linter.unusedSimpArgs false
section
variable {P : Program} {t : TypeId} {x y : Operand} {k k' : IntKind} {a b z : Int}
theorem ar_add (h : k.wrap (a + b) = z) : ∀ w, (do eqGuard .add t x y (.int k a) (.int k b); binOp .add t (.int k a) (.int k b) : Sem Value).run P w = .ok (.int k z) w := fun w => by simp [go_sem, h]
theorem ar_sub (h : k.wrap (a - b) = z) : ∀ w, (do eqGuard .sub t x y (.int k a) (.int k b); binOp .sub t (.int k a) (.int k b) : Sem Value).run P w = .ok (.int k z) w := fun w => by simp [go_sem, h]
theorem ar_mul (h : k.wrap (a * b) = z) : ∀ w, (do eqGuard .mul t x y (.int k a) (.int k b); binOp .mul t (.int k a) (.int k b) : Sem Value).run P w = .ok (.int k z) w := fun w => by simp [go_sem, h]
theorem ar_or (h : bits .or k a b = z) : ∀ w, (do eqGuard .or t x y (.int k a) (.int k b); binOp .or t (.int k a) (.int k b) : Sem Value).run P w = .ok (.int k z) w := fun w => by simp [go_sem, h]
theorem ar_shl {n : Nat} (hn : b = (n : Nat)) (hle : Nat.ble n k.bits = true) (h : k.wrap (a * 2 ^ n) = z) : ∀ w, (do eqGuard .shl t x y (.int k a) (.int k' b); binOp .shl t (.int k a) (.int k' b) : Sem Value).run P w = .ok (.int k z) w := fun w => by
  subst hn
  have h0 : ¬ ((n : Nat) : Int) < 0 := by omega
  have h1 : min n k.bits = n := Nat.min_eq_left (Nat.le_of_ble_eq_true hle)
  cases k <;> (simp only [IntKind.bits] at h1; simp [go_sem, h0, h1, h])
theorem ar_neg (h : k.wrap (-a) = z) : ∀ w, (Op.unary .neg (.int k a)).run P w = .ok (.int k z) w := fun w => by simp [go_sem, h]
theorem ar_conv {s d : TypeId} (hs : P.underlying s = some (.int k)) (hd : P.underlying d = some (.int k')) (h : k'.wrap a = z) : ∀ w, (convert s d (.int k a)).run P w = .ok (.int k' z) w := fun w => by
  simp [convert, run_underlying hs, run_underlying hd, go_sem, h]
end
theorem in_i64 {a : Int} (h0 : -9223372036854775808 ≤ a) (h1 : a ≤ 9223372036854775807) : IntKind.i64.wrap a = a := by rw [IntKind.wrap_i64]; omega
theorem in_u64 {a : Int} (h0 : 0 ≤ a) (h1 : a ≤ 18446744073709551615) : IntKind.u64.wrap a = a := by rw [IntKind.wrap_u64]; omega
end Go.Proofs.YthlkbnhbmfmchaaGreat
namespace Go.Proofs.YthlkbnhbmfmchaaGreat
open Go.RowKit
set_option linter.unusedVariables false
set_option linter.unusedSimpArgs false

def smallS (b : Bool) (x : Nat) : Int × Int := if x ≤ 9223372036854775807 + b.toNat then (sgn b x, 0) else (0, 4)
def smallQ (q : Q6) : Int × Int := if soundQ q = true then (if wholeQ q = true then smallS q.b1 (val q.t1) else (0, 10)) else (0, 2)
theorem smallQ_bad {q : Q6} (h : soundQ q = false) : smallQ q = (0, 2) := if_neg (by rw [h]; decide)
theorem smallQ_type {q : Q6} (h : soundQ q = true) (h1 : wholeQ q = false) : smallQ q = (0, 10) := by
  unfold smallQ
  rw [if_pos h, if_neg (by rw [h1]; decide)]
theorem whole_sound {q : Q6} (h : wholeQ q = true) : soundQ q = true := by
  unfold wholeQ at h
  rw [Bool.and_eq_true] at h
  exact h.1
theorem smallQ_whole {b : Bool} {x : Nat} (h : wholeQ (Q6.whole b x) = true) : smallQ (Q6.whole b x) = smallS b x := by
  unfold smallQ
  rw [if_pos (whole_sound h), if_pos h]
  show smallS b (val (words x)) = _
  rw [val_words]
theorem words_single {x : Nat} (h0 : x ≠ 0) (h : x < 4294967296) : words x = [x] := by
  rw [words_pos (by omega), show x / 4294967296 = 0 from by omega, words_zero, Nat.mod_eq_of_lt h]
theorem words_double {x : Nat} (h0 : 4294967296 ≤ x) (h : x < 18446744073709551616) : words x = [x % 4294967296, x / 4294967296] := by
  rw [words_pos (by omega), words_single (by omega) (by omega)]
theorem cmp_words {x y : Nat} (hx : (words x).length ≤ 512) (hy : (words y).length ≤ 512) : cmpS (words x) (words y) = cmpN x y := by
  unfold cmpS
  simp only [sound_of_words hx, sound_of_words hy, val_words, Bool.and_self, if_true]
theorem or_i64 (x y : Nat) (hx : x < 9223372036854775808) (hy : y < 9223372036854775808) : bits .or .i64 (x : Int) (y : Int) = ((x ||| y : Nat) : Int) := by
  have h1 : x ||| y < 2 ^ 63 := Nat.or_lt_two_pow (n := 63) hx hy
  have h2 : (2 : Nat) ^ 63 = 9223372036854775808 := rfl
  have e : (BitVec.ofInt IntKind.i64.bits (x : Int) ||| BitVec.ofInt IntKind.i64.bits (y : Int)).toNat = x ||| y := by
    rw [BitVec.ofInt_natCast, BitVec.ofInt_natCast, BitVec.toNat_or, BitVec.toNat_ofNat, BitVec.toNat_ofNat]
    show x % 18446744073709551616 ||| y % 18446744073709551616 = _
    rw [Nat.mod_eq_of_lt (by omega), Nat.mod_eq_of_lt (by omega)]
  show IntKind.i64.wrap ((BitVec.ofInt IntKind.i64.bits (x : Int) ||| BitVec.ofInt IntKind.i64.bits (y : Int)).toNat : Int) = _
  rw [e]
  exact in_i64 (by omega) (by omega)
theorem or0_i64 {d : Nat} (h : d < 9223372036854775808) : bits .or .i64 0 ((d : Nat) : Int) = ((d : Nat) : Int) := by
  have := or_i64 0 d (by decide) h
  rw [Nat.zero_or] at this
  exact this
theorem or2_i64 {d0 d1 : Nat} (h0 : d0 < 4294967296) (h1 : d1 < 2147483648) : bits .or .i64 ((d0 : Nat) : Int) ((d1 * 4294967296 : Nat) : Int) = ((d0 + d1 * 4294967296 : Nat) : Int) := by
  rw [or_i64 d0 (d1 * 4294967296) (by omega) (by omega)]
  have e : d0 ||| d1 * 4294967296 = d1 * 4294967296 + d0 := by
    have := Nat.two_pow_add_eq_or_of_lt (i := 32) (b := d0) h0 d1
    rw [show (2 : Nat) ^ 32 = 4294967296 from rfl] at this
    rw [Nat.or_comm, Nat.mul_comm, ← this]
  rw [e, Nat.add_comm]
theorem shl0_i64 {d : Nat} (h : d < 9223372036854775808) : IntKind.i64.wrap (((d : Nat) : Int) * 2 ^ 0) = ((d : Nat) : Int) := by
  rw [Int.pow_zero, Int.mul_one]
  exact in_i64 (by omega) (by omega)
theorem shl32_i64 {d : Nat} (h : d < 2147483648) : IntKind.i64.wrap (((d : Nat) : Int) * 2 ^ 32) = ((d * 4294967296 : Nat) : Int) := by
  rw [show ((2 : Int) ^ 32) = 4294967296 from rfl]
  rw [in_i64 (by omega) (by omega)]
  omega
theorem shl32_y {d y : Nat} (h : d < 2147483648) (hy : d * 4294967296 = y) : IntKind.i64.wrap (((d : Nat) : Int) * 2 ^ 32) = ((y : Nat) : Int) := hy ▸ shl32_i64 h
theorem or2_y {d0 d1 y x : Nat} (h0 : d0 < 4294967296) (h1 : d1 < 2147483648) (hy : d1 * 4294967296 = y) (hx : d0 + y = x) : bits .or .i64 ((d0 : Nat) : Int) ((y : Nat) : Int) = ((x : Nat) : Int) := by
  subst hy hx
  exact or2_i64 h0 h1
theorem c32_i64 {d : Nat} (h : d < 4294967296) : IntKind.i64.wrap ((d : Nat) : Int) = ((d : Nat) : Int) := in_i64 (by omega) (by omega)
theorem c32_u64 {d : Nat} (h : d < 4294967296) : IntKind.u64.wrap ((d : Nat) : Int) = ((d : Nat) : Int) := in_u64 (by omega) (by omega)
end Go.Proofs.YthlkbnhbmfmchaaGreat
namespace Go.Proofs.YthlkbnhbmfmchaaGreat
open Go.RowKit
set_option linter.unusedVariables false
set_option linter.unusedSimpArgs false
set_option maxRecDepth 100000
theorem SmA_is1_22 : Is1 Tryz.prog 22 := ⟨⟨_, Tryz.underlying22, rfl⟩, by kernel_rfl⟩
theorem SmA_is1_4 : Is1 Tryz.prog 4 := ⟨⟨_, Tryz.underlying4, rfl⟩, by kernel_rfl⟩
theorem SmA_is1_66 : Is1 Tryz.prog 66 := ⟨⟨_, Tryz.underlying66, rfl⟩, by kernel_rfl⟩
theorem SmA_fld_24_0 : FieldAt Tryz.prog 24 0 0 := ⟨_, _, Tryz.underlying24, rfl, rfl, by kernel_rfl⟩
theorem SmA_fld_24_1 : FieldAt Tryz.prog 24 1 1 := ⟨_, _, Tryz.underlying24, rfl, rfl, by kernel_rfl⟩
theorem SmA_fld_24_2 : FieldAt Tryz.prog 24 2 2 := ⟨_, _, Tryz.underlying24, rfl, rfl, by kernel_rfl⟩
theorem SmA_fld_26_0 : FieldAt Tryz.prog 26 0 0 := ⟨_, _, Tryz.underlying26, rfl, rfl, by kernel_rfl⟩
theorem SmA_isS_24 : IsS Tryz.prog 24 3 := ⟨⟨_, Tryz.underlying24⟩, by kernel_rfl⟩
theorem SmA_isS_26 : IsS Tryz.prog 26 6 := ⟨⟨_, Tryz.underlying26⟩, by kernel_rfl⟩
theorem intOf0f_any {w : World} {a1 a2 : Option Addr} {ac1 ac2 m2 : Nat}  (ha : Rd w a1 []) : Calls Tryz.prog 52 #[.agg #[.bool false, .slice a1 0 ac1, .slice a2 m2 ac2]] w fun e w' => e = .returned (.int .i64 (sgn false (0))) ∧ Below w.heap.size w w' := by
  have hS : St w w [] [(a1, [])] [] := (St.start w).addR ha
  refine walk_of (l := [(0, .agg #[.bool false, .slice a1 0 ac1, .slice a2 m2 ac2])]) Tryz.func52 rfl Tryz.ntmps52 rfl rfl ?_
  intro Q hret hnorm hP a hA
  refine wp_seq_k (fun K1 hK1 => ?_)
  refine wp_region_lit ?_
  refine seq_new (vs := [.bool false, .slice a1 0 ac1, .slice a2 m2 ac2]) (t := 24) hA hS rfl rfl rfl (fun g => .pointer (some ⟨g, 0, none⟩)) (does_box rfl rfl) rfl ?_
  intro g2 w3 hS a hA
  refine seq_do hA rfl rfl rfl (does_assign rfl) ?_
  intro a hA
  refine seq_end ?_
  refine hK1 _ _ ?_
  refine wp_seq_k (fun K4 hK4 => ?_)
  refine wp_region_lit ?_
  refine seq_do hA rfl rfl rfl (does_assign rfl) ?_
  intro a hA
  refine seq_end ?_
  refine hK4 _ _ ?_
  refine wp_seq_k (fun K5 hK5 => ?_)
  refine wp_seq_k (fun K6 hK6 => ?_)
  refine wp_region_lit ?_
  refine seq_do (v := .pointer (some ⟨g2, 1, none⟩)) hA rfl rfl rfl (does_field SmA_fld_24_1 rfl rfl) ?_
  intro a hA
  refine seq_do hA rfl rfl rfl (does_load1 hS SmA_is1_22 rfl 0 rfl rfl) ?_
  intro a hA
  refine seq_do (v := .int .i64 0) hA rfl rfl rfl (does_len Tryz.underlying22 rfl) ?_
  intro a hA
  refine seq_do hA rfl rfl rfl (does_move rfl) ?_
  intro a hA
  refine seq_end ?_
  refine hK6 _ _ ?_
  refine wp_block ?_
  refine wp_loop_rounds 12 ?_
  refine rounds_k (fun K7 hK7 => ?_)
  refine wp_seq_k (fun K8 hK8 => ?_)
  refine wp_region_lit ?_
  refine seq_do (v := .bool false) hA rfl rfl rfl (does_bin rfl rfl (fun w => by kernel_rfl)) ?_
  intro a hA
  refine seq_end ?_
  refine hK8 _ _ ?_
  refine wp_seq_k (fun K9 hK9 => ?_)
  refine wp_cond_false (hA.ev rfl) ?_
  refine wp_exit ?_
  refine hK5 _ _ ?_
  refine wp_seq_k (fun K10 hK10 => ?_)
  refine wp_seq_k (fun K11 hK11 => ?_)
  refine wp_region_lit ?_
  refine seq_do (v := .pointer (some ⟨g2, 0, none⟩)) hA rfl rfl rfl (does_field SmA_fld_24_0 rfl rfl) ?_
  intro a hA
  refine seq_do hA rfl rfl rfl (does_load1 hS SmA_is1_4 rfl 0 rfl rfl) ?_
  intro a hA
  refine seq_end ?_
  refine hK11 _ _ ?_
  refine wp_cond_false (hA.ev rfl) ?_
  refine wp_skip ?_
  refine hK10 _ _ ?_
  refine wp_seq_k (fun K12 hK12 => ?_)
  refine wp_region_lit ?_
  refine seq_do hA rfl rfl rfl (does_move rfl) ?_
  intro a hA
  refine seq_do hA rfl rfl rfl (does_assign rfl) ?_
  intro a hA
  refine seq_end ?_
  refine hK12 _ _ ?_
  refine wp_ret ?_
  refine hret _ _ ?_
  refine ends (v := .int .i64 0) hA rfl (.cons (res_tmp rfl) .nil) rfl ?_
  exact ⟨by first | rfl | (simp only [sgn]; rfl) | decide, hS.bel⟩
theorem intOf0t_any {w : World} {a1 a2 : Option Addr} {ac1 ac2 m2 : Nat}  (ha : Rd w a1 []) : Calls Tryz.prog 52 #[.agg #[.bool true, .slice a1 0 ac1, .slice a2 m2 ac2]] w fun e w' => e = .returned (.int .i64 (sgn true (0))) ∧ Below w.heap.size w w' := by
  have hS : St w w [] [(a1, [])] [] := (St.start w).addR ha
  refine walk_of (l := [(0, .agg #[.bool true, .slice a1 0 ac1, .slice a2 m2 ac2])]) Tryz.func52 rfl Tryz.ntmps52 rfl rfl ?_
  intro Q hret hnorm hP a hA
  refine wp_seq_k (fun K1 hK1 => ?_)
  refine wp_region_lit ?_
  refine seq_new (vs := [.bool true, .slice a1 0 ac1, .slice a2 m2 ac2]) (t := 24) hA hS rfl rfl rfl (fun g => .pointer (some ⟨g, 0, none⟩)) (does_box rfl rfl) rfl ?_
  intro g2 w3 hS a hA
  refine seq_do hA rfl rfl rfl (does_assign rfl) ?_
  intro a hA
  refine seq_end ?_
  refine hK1 _ _ ?_
  refine wp_seq_k (fun K4 hK4 => ?_)
  refine wp_region_lit ?_
  refine seq_do hA rfl rfl rfl (does_assign rfl) ?_
  intro a hA
  refine seq_end ?_
  refine hK4 _ _ ?_
  refine wp_seq_k (fun K5 hK5 => ?_)
  refine wp_seq_k (fun K6 hK6 => ?_)
  refine wp_region_lit ?_
  refine seq_do (v := .pointer (some ⟨g2, 1, none⟩)) hA rfl rfl rfl (does_field SmA_fld_24_1 rfl rfl) ?_
  intro a hA
  refine seq_do hA rfl rfl rfl (does_load1 hS SmA_is1_22 rfl 0 rfl rfl) ?_
  intro a hA
  refine seq_do (v := .int .i64 0) hA rfl rfl rfl (does_len Tryz.underlying22 rfl) ?_
  intro a hA
  refine seq_do hA rfl rfl rfl (does_move rfl) ?_
  intro a hA
  refine seq_end ?_
  refine hK6 _ _ ?_
  refine wp_block ?_
  refine wp_loop_rounds 12 ?_
  refine rounds_k (fun K7 hK7 => ?_)
  refine wp_seq_k (fun K8 hK8 => ?_)
  refine wp_region_lit ?_
  refine seq_do (v := .bool false) hA rfl rfl rfl (does_bin rfl rfl (fun w => by kernel_rfl)) ?_
  intro a hA
  refine seq_end ?_
  refine hK8 _ _ ?_
  refine wp_seq_k (fun K9 hK9 => ?_)
  refine wp_cond_false (hA.ev rfl) ?_
  refine wp_exit ?_
  refine hK5 _ _ ?_
  refine wp_seq_k (fun K10 hK10 => ?_)
  refine wp_seq_k (fun K11 hK11 => ?_)
  refine wp_region_lit ?_
  refine seq_do (v := .pointer (some ⟨g2, 0, none⟩)) hA rfl rfl rfl (does_field SmA_fld_24_0 rfl rfl) ?_
  intro a hA
  refine seq_do hA rfl rfl rfl (does_load1 hS SmA_is1_4 rfl 0 rfl rfl) ?_
  intro a hA
  refine seq_end ?_
  refine hK11 _ _ ?_
  refine wp_cond_true (hA.ev rfl) ?_
  refine wp_seq_k (fun K12 hK12 => ?_)
  refine wp_region_lit ?_
  refine seq_do hA rfl rfl rfl (does_move rfl) ?_
  intro a hA
  refine seq_do (v := .int .i64 0) hA rfl rfl rfl (does_un rfl (ar_neg (by decide))) ?_
  intro a hA
  refine seq_do hA rfl rfl rfl (does_assign rfl) ?_
  intro a hA
  refine seq_end ?_
  refine hK12 _ _ ?_
  refine wp_ret ?_
  refine hret _ _ ?_
  refine ends (v := .int .i64 0) hA rfl (.cons (res_tmp rfl) .nil) rfl ?_
  exact ⟨by first | rfl | (simp only [sgn]; rfl) | decide, hS.bel⟩
theorem intOf1f_any {w : World} {a1 a2 : Option Addr} {ac1 ac2 m2 : Nat} {d0 : Nat} (h0 : d0 < 4294967296) (ha : Rd w a1 [d0]) : Calls Tryz.prog 52 #[.agg #[.bool false, .slice a1 1 ac1, .slice a2 m2 ac2]] w fun e w' => e = .returned (.int .i64 (sgn false (d0))) ∧ Below w.heap.size w w' := by
  have hS : St w w [] [(a1, [d0])] [] := (St.start w).addR ha
  refine walk_of (l := [(0, .agg #[.bool false, .slice a1 1 ac1, .slice a2 m2 ac2])]) Tryz.func52 rfl Tryz.ntmps52 rfl rfl ?_
  intro Q hret hnorm hP a hA
  refine wp_seq_k (fun K1 hK1 => ?_)
  refine wp_region_lit ?_
  refine seq_new (vs := [.bool false, .slice a1 1 ac1, .slice a2 m2 ac2]) (t := 24) hA hS rfl rfl rfl (fun g => .pointer (some ⟨g, 0, none⟩)) (does_box rfl rfl) rfl ?_
  intro g2 w3 hS a hA
  refine seq_do hA rfl rfl rfl (does_assign rfl) ?_
  intro a hA
  refine seq_end ?_
  refine hK1 _ _ ?_
  refine wp_seq_k (fun K4 hK4 => ?_)
  refine wp_region_lit ?_
  refine seq_do hA rfl rfl rfl (does_assign rfl) ?_
  intro a hA
  refine seq_end ?_
  refine hK4 _ _ ?_
  refine wp_seq_k (fun K5 hK5 => ?_)
  refine wp_seq_k (fun K6 hK6 => ?_)
  refine wp_region_lit ?_
  refine seq_do (v := .pointer (some ⟨g2, 1, none⟩)) hA rfl rfl rfl (does_field SmA_fld_24_1 rfl rfl) ?_
  intro a hA
  refine seq_do hA rfl rfl rfl (does_load1 hS SmA_is1_22 rfl 0 rfl rfl) ?_
  intro a hA
  refine seq_do (v := .int .i64 1) hA rfl rfl rfl (does_len Tryz.underlying22 rfl) ?_
  intro a hA
  refine seq_do hA rfl rfl rfl (does_move rfl) ?_
  intro a hA
  refine seq_end ?_
  refine hK6 _ _ ?_
  refine wp_block ?_
  refine wp_loop_rounds 12 ?_
  refine rounds_k (fun K7 hK7 => ?_)
  refine wp_seq_k (fun K8 hK8 => ?_)
  refine wp_region_lit ?_
  refine seq_do (v := .bool true) hA rfl rfl rfl (does_bin rfl rfl (fun w => by kernel_rfl)) ?_
  intro a hA
  refine seq_end ?_
  refine hK8 _ _ ?_
  refine wp_seq_k (fun K9 hK9 => ?_)
  refine wp_cond_true (hA.ev rfl) ?_
  refine wp_skip ?_
  refine hK9 _ _ ?_
  refine wp_seq_k (fun K10 hK10 => ?_)
  refine wp_block ?_
  refine wp_seq_k (fun K11 hK11 => ?_)
  refine wp_region_lit ?_
  refine seq_do hA rfl rfl rfl (does_move rfl) ?_
  intro a hA
  have hi15 : 0 < ([d0]).length := by first | (simp; done) | omega
  obtain ⟨b12, f13, hso14⟩ := Rd.addr (hS.rd 0 rfl) hi15
  refine seq_do (v := .pointer (some ⟨b12, f13 + 0, none⟩)) hA rfl rfl rfl (does_indexRow (k := 0) Tryz.underlying22 (by kernel_rfl) rfl rfl (by omega) hso14 (by omega)) ?_
  intro a hA
  refine seq_do (v := .int .u32 (((([d0]).getD 0 0 : Nat) : Int))) hA rfl rfl rfl (does_loadRow (hS.rd 0 rfl) hso14 hi15 SmA_is1_66 rfl) ?_
  intro a hA
  refine seq_do hA rfl rfl rfl (does_assign rfl) ?_
  intro a hA
  refine seq_do hA rfl rfl rfl (does_assign rfl) ?_
  intro a hA
  refine seq_end ?_
  refine hK11 _ _ ?_
  refine wp_region_lit ?_
  refine seq_do hA rfl rfl rfl (does_move rfl) ?_
  intro a hA
  refine seq_do hA rfl rfl rfl (does_move rfl) ?_
  intro a hA
  refine seq_do (v := .int .i64 (((d0 : Nat) : Int))) hA rfl rfl rfl (does_convert rfl (ar_conv Tryz.underlying66 Tryz.underlying3 (show IntKind.i64.wrap ((d0 : Nat) : Int) = ((d0 : Nat) : Int) from c32_i64 (by omega)))) ?_
  intro a hA
  refine seq_do hA rfl rfl rfl (does_move rfl) ?_
  intro a hA
  refine seq_do (v := .int .i64 0) hA rfl rfl rfl (does_bin rfl rfl (fun w => by kernel_rfl)) ?_
  intro a hA
  refine seq_do (v := .int .i64 (((d0 : Nat) : Int))) hA rfl rfl rfl (does_bin rfl rfl (ar_shl (n := 0) rfl rfl (shl0_i64 (by omega)))) ?_
  intro a hA
  refine seq_do (v := .int .i64 (((d0 : Nat) : Int))) hA rfl rfl rfl (does_bin rfl rfl (ar_or (or0_i64 (by omega)))) ?_
  intro a hA
  refine seq_do hA rfl rfl rfl (does_assign rfl) ?_
  intro a hA
  refine seq_end ?_
  refine hK10 _ _ ?_
  refine wp_region_lit ?_
  refine seq_do (v := .int .i64 1) hA rfl rfl rfl (does_bin rfl rfl (fun w => by kernel_rfl)) ?_
  intro a hA
  refine seq_do hA rfl rfl rfl (does_move rfl) ?_
  intro a hA
  refine seq_end ?_
  refine hK7 _ _ ?_
  refine rounds_k (fun K16 hK16 => ?_)
  refine wp_seq_k (fun K17 hK17 => ?_)
  refine wp_region_lit ?_
  refine seq_do (v := .bool false) hA rfl rfl rfl (does_bin rfl rfl (fun w => by kernel_rfl)) ?_
  intro a hA
  refine seq_end ?_
  refine hK17 _ _ ?_
  refine wp_seq_k (fun K18 hK18 => ?_)
  refine wp_cond_false (hA.ev rfl) ?_
  refine wp_exit ?_
  refine hK5 _ _ ?_
  refine wp_seq_k (fun K19 hK19 => ?_)
  refine wp_seq_k (fun K20 hK20 => ?_)
  refine wp_region_lit ?_
  refine seq_do (v := .pointer (some ⟨g2, 0, none⟩)) hA rfl rfl rfl (does_field SmA_fld_24_0 rfl rfl) ?_
  intro a hA
  refine seq_do hA rfl rfl rfl (does_load1 hS SmA_is1_4 rfl 0 rfl rfl) ?_
  intro a hA
  refine seq_end ?_
  refine hK20 _ _ ?_
  refine wp_cond_false (hA.ev rfl) ?_
  refine wp_skip ?_
  refine hK19 _ _ ?_
  refine wp_seq_k (fun K21 hK21 => ?_)
  refine wp_region_lit ?_
  refine seq_do hA rfl rfl rfl (does_move rfl) ?_
  intro a hA
  refine seq_do hA rfl rfl rfl (does_assign rfl) ?_
  intro a hA
  refine seq_end ?_
  refine hK21 _ _ ?_
  refine wp_ret ?_
  refine hret _ _ ?_
  refine ends (v := .int .i64 (((d0 : Nat) : Int))) hA rfl (.cons (res_tmp rfl) .nil) rfl ?_
  exact ⟨by first | rfl | (simp only [sgn]; rfl) | decide, hS.bel⟩
theorem intOf1t_any {w : World} {a1 a2 : Option Addr} {ac1 ac2 m2 : Nat} {d0 : Nat} (h0 : d0 < 4294967296) (ha : Rd w a1 [d0]) : Calls Tryz.prog 52 #[.agg #[.bool true, .slice a1 1 ac1, .slice a2 m2 ac2]] w fun e w' => e = .returned (.int .i64 (sgn true (d0))) ∧ Below w.heap.size w w' := by
  have hS : St w w [] [(a1, [d0])] [] := (St.start w).addR ha
  refine walk_of (l := [(0, .agg #[.bool true, .slice a1 1 ac1, .slice a2 m2 ac2])]) Tryz.func52 rfl Tryz.ntmps52 rfl rfl ?_
  intro Q hret hnorm hP a hA
  refine wp_seq_k (fun K1 hK1 => ?_)
  refine wp_region_lit ?_
  refine seq_new (vs := [.bool true, .slice a1 1 ac1, .slice a2 m2 ac2]) (t := 24) hA hS rfl rfl rfl (fun g => .pointer (some ⟨g, 0, none⟩)) (does_box rfl rfl) rfl ?_
  intro g2 w3 hS a hA
  refine seq_do hA rfl rfl rfl (does_assign rfl) ?_
  intro a hA
  refine seq_end ?_
  refine hK1 _ _ ?_
  refine wp_seq_k (fun K4 hK4 => ?_)
  refine wp_region_lit ?_
  refine seq_do hA rfl rfl rfl (does_assign rfl) ?_
  intro a hA
  refine seq_end ?_
  refine hK4 _ _ ?_
  refine wp_seq_k (fun K5 hK5 => ?_)
  refine wp_seq_k (fun K6 hK6 => ?_)
  refine wp_region_lit ?_
  refine seq_do (v := .pointer (some ⟨g2, 1, none⟩)) hA rfl rfl rfl (does_field SmA_fld_24_1 rfl rfl) ?_
  intro a hA
  refine seq_do hA rfl rfl rfl (does_load1 hS SmA_is1_22 rfl 0 rfl rfl) ?_
  intro a hA
  refine seq_do (v := .int .i64 1) hA rfl rfl rfl (does_len Tryz.underlying22 rfl) ?_
  intro a hA
  refine seq_do hA rfl rfl rfl (does_move rfl) ?_
  intro a hA
  refine seq_end ?_
  refine hK6 _ _ ?_
  refine wp_block ?_
  refine wp_loop_rounds 12 ?_
  refine rounds_k (fun K7 hK7 => ?_)
  refine wp_seq_k (fun K8 hK8 => ?_)
  refine wp_region_lit ?_
  refine seq_do (v := .bool true) hA rfl rfl rfl (does_bin rfl rfl (fun w => by kernel_rfl)) ?_
  intro a hA
  refine seq_end ?_
  refine hK8 _ _ ?_
  refine wp_seq_k (fun K9 hK9 => ?_)
  refine wp_cond_true (hA.ev rfl) ?_
  refine wp_skip ?_
  refine hK9 _ _ ?_
  refine wp_seq_k (fun K10 hK10 => ?_)
  refine wp_block ?_
  refine wp_seq_k (fun K11 hK11 => ?_)
  refine wp_region_lit ?_
  refine seq_do hA rfl rfl rfl (does_move rfl) ?_
  intro a hA
  have hi15 : 0 < ([d0]).length := by first | (simp; done) | omega
  obtain ⟨b12, f13, hso14⟩ := Rd.addr (hS.rd 0 rfl) hi15
  refine seq_do (v := .pointer (some ⟨b12, f13 + 0, none⟩)) hA rfl rfl rfl (does_indexRow (k := 0) Tryz.underlying22 (by kernel_rfl) rfl rfl (by omega) hso14 (by omega)) ?_
  intro a hA
  refine seq_do (v := .int .u32 (((([d0]).getD 0 0 : Nat) : Int))) hA rfl rfl rfl (does_loadRow (hS.rd 0 rfl) hso14 hi15 SmA_is1_66 rfl) ?_
  intro a hA
  refine seq_do hA rfl rfl rfl (does_assign rfl) ?_
  intro a hA
  refine seq_do hA rfl rfl rfl (does_assign rfl) ?_
  intro a hA
  refine seq_end ?_
  refine hK11 _ _ ?_
  refine wp_region_lit ?_
  refine seq_do hA rfl rfl rfl (does_move rfl) ?_
  intro a hA
  refine seq_do hA rfl rfl rfl (does_move rfl) ?_
  intro a hA
  refine seq_do (v := .int .i64 (((d0 : Nat) : Int))) hA rfl rfl rfl (does_convert rfl (ar_conv Tryz.underlying66 Tryz.underlying3 (show IntKind.i64.wrap ((d0 : Nat) : Int) = ((d0 : Nat) : Int) from c32_i64 (by omega)))) ?_
  intro a hA
  refine seq_do hA rfl rfl rfl (does_move rfl) ?_
  intro a hA
  refine seq_do (v := .int .i64 0) hA rfl rfl rfl (does_bin rfl rfl (fun w => by kernel_rfl)) ?_
  intro a hA
  refine seq_do (v := .int .i64 (((d0 : Nat) : Int))) hA rfl rfl rfl (does_bin rfl rfl (ar_shl (n := 0) rfl rfl (shl0_i64 (by omega)))) ?_
  intro a hA
  refine seq_do (v := .int .i64 (((d0 : Nat) : Int))) hA rfl rfl rfl (does_bin rfl rfl (ar_or (or0_i64 (by omega)))) ?_
  intro a hA
  refine seq_do hA rfl rfl rfl (does_assign rfl) ?_
  intro a hA
  refine seq_end ?_
  refine hK10 _ _ ?_
  refine wp_region_lit ?_
  refine seq_do (v := .int .i64 1) hA rfl rfl rfl (does_bin rfl rfl (fun w => by kernel_rfl)) ?_
  intro a hA
  refine seq_do hA rfl rfl rfl (does_move rfl) ?_
  intro a hA
  refine seq_end ?_
  refine hK7 _ _ ?_
  refine rounds_k (fun K16 hK16 => ?_)
  refine wp_seq_k (fun K17 hK17 => ?_)
  refine wp_region_lit ?_
  refine seq_do (v := .bool false) hA rfl rfl rfl (does_bin rfl rfl (fun w => by kernel_rfl)) ?_
  intro a hA
  refine seq_end ?_
  refine hK17 _ _ ?_
  refine wp_seq_k (fun K18 hK18 => ?_)
  refine wp_cond_false (hA.ev rfl) ?_
  refine wp_exit ?_
  refine hK5 _ _ ?_
  refine wp_seq_k (fun K19 hK19 => ?_)
  refine wp_seq_k (fun K20 hK20 => ?_)
  refine wp_region_lit ?_
  refine seq_do (v := .pointer (some ⟨g2, 0, none⟩)) hA rfl rfl rfl (does_field SmA_fld_24_0 rfl rfl) ?_
  intro a hA
  refine seq_do hA rfl rfl rfl (does_load1 hS SmA_is1_4 rfl 0 rfl rfl) ?_
  intro a hA
  refine seq_end ?_
  refine hK20 _ _ ?_
  refine wp_cond_true (hA.ev rfl) ?_
  refine wp_seq_k (fun K21 hK21 => ?_)
  refine wp_region_lit ?_
  refine seq_do hA rfl rfl rfl (does_move rfl) ?_
  intro a hA
  refine seq_do (v := .int .i64 (-(((d0 : Nat) : Int)))) hA rfl rfl rfl (does_un rfl (un_neg (i64In (by omega) (by omega)))) ?_
  intro a hA
  refine seq_do hA rfl rfl rfl (does_assign rfl) ?_
  intro a hA
  refine seq_end ?_
  refine hK21 _ _ ?_
  refine wp_ret ?_
  refine hret _ _ ?_
  refine ends (v := .int .i64 (-(((d0 : Nat) : Int)))) hA rfl (.cons (res_tmp rfl) .nil) rfl ?_
  exact ⟨by first | rfl | (simp only [sgn]; rfl) | decide, hS.bel⟩
theorem intOf2f_any {w : World} {a1 a2 : Option Addr} {ac1 ac2 m2 : Nat} {d0 d1 y x : Nat} (h0 : d0 < 4294967296) (h1 : d1 < 2147483648) (hy : d1 * 4294967296 = y) (hx : d0 + y = x) (hx9 : x ≤ 9223372036854775807) (ha : Rd w a1 [d0, d1]) : Calls Tryz.prog 52 #[.agg #[.bool false, .slice a1 2 ac1, .slice a2 m2 ac2]] w fun e w' => e = .returned (.int .i64 (sgn false (x))) ∧ Below w.heap.size w w' := by
  have hS : St w w [] [(a1, [d0, d1])] [] := (St.start w).addR ha
  refine walk_of (l := [(0, .agg #[.bool false, .slice a1 2 ac1, .slice a2 m2 ac2])]) Tryz.func52 rfl Tryz.ntmps52 rfl rfl ?_
  intro Q hret hnorm hP a hA
  refine wp_seq_k (fun K1 hK1 => ?_)
  refine wp_region_lit ?_
  refine seq_new (vs := [.bool false, .slice a1 2 ac1, .slice a2 m2 ac2]) (t := 24) hA hS rfl rfl rfl (fun g => .pointer (some ⟨g, 0, none⟩)) (does_box rfl rfl) rfl ?_
  intro g2 w3 hS a hA
  refine seq_do hA rfl rfl rfl (does_assign rfl) ?_
  intro a hA
  refine seq_end ?_
  refine hK1 _ _ ?_
  refine wp_seq_k (fun K4 hK4 => ?_)
  refine wp_region_lit ?_
  refine seq_do hA rfl rfl rfl (does_assign rfl) ?_
  intro a hA
  refine seq_end ?_
  refine hK4 _ _ ?_
  refine wp_seq_k (fun K5 hK5 => ?_)
  refine wp_seq_k (fun K6 hK6 => ?_)
  refine wp_region_lit ?_
  refine seq_do (v := .pointer (some ⟨g2, 1, none⟩)) hA rfl rfl rfl (does_field SmA_fld_24_1 rfl rfl) ?_
  intro a hA
  refine seq_do hA rfl rfl rfl (does_load1 hS SmA_is1_22 rfl 0 rfl rfl) ?_
  intro a hA
  refine seq_do (v := .int .i64 2) hA rfl rfl rfl (does_len Tryz.underlying22 rfl) ?_
  intro a hA
  refine seq_do hA rfl rfl rfl (does_move rfl) ?_
  intro a hA
  refine seq_end ?_
  refine hK6 _ _ ?_
  refine wp_block ?_
  refine wp_loop_rounds 12 ?_
  refine rounds_k (fun K7 hK7 => ?_)
  refine wp_seq_k (fun K8 hK8 => ?_)
  refine wp_region_lit ?_
  refine seq_do (v := .bool true) hA rfl rfl rfl (does_bin rfl rfl (fun w => by kernel_rfl)) ?_
  intro a hA
  refine seq_end ?_
  refine hK8 _ _ ?_
  refine wp_seq_k (fun K9 hK9 => ?_)
  refine wp_cond_true (hA.ev rfl) ?_
  refine wp_skip ?_
  refine hK9 _ _ ?_
  refine wp_seq_k (fun K10 hK10 => ?_)
  refine wp_block ?_
  refine wp_seq_k (fun K11 hK11 => ?_)
  refine wp_region_lit ?_
  refine seq_do hA rfl rfl rfl (does_move rfl) ?_
  intro a hA
  have hi15 : 0 < ([d0, d1]).length := by first | (simp; done) | omega
  obtain ⟨b12, f13, hso14⟩ := Rd.addr (hS.rd 0 rfl) hi15
  refine seq_do (v := .pointer (some ⟨b12, f13 + 0, none⟩)) hA rfl rfl rfl (does_indexRow (k := 0) Tryz.underlying22 (by kernel_rfl) rfl rfl (by omega) hso14 (by omega)) ?_
  intro a hA
  refine seq_do (v := .int .u32 (((([d0, d1]).getD 0 0 : Nat) : Int))) hA rfl rfl rfl (does_loadRow (hS.rd 0 rfl) hso14 hi15 SmA_is1_66 rfl) ?_
  intro a hA
  refine seq_do hA rfl rfl rfl (does_assign rfl) ?_
  intro a hA
  refine seq_do hA rfl rfl rfl (does_assign rfl) ?_
  intro a hA
  refine seq_end ?_
  refine hK11 _ _ ?_
  refine wp_region_lit ?_
  refine seq_do hA rfl rfl rfl (does_move rfl) ?_
  intro a hA
  refine seq_do hA rfl rfl rfl (does_move rfl) ?_
  intro a hA
  refine seq_do (v := .int .i64 (((d0 : Nat) : Int))) hA rfl rfl rfl (does_convert rfl (ar_conv Tryz.underlying66 Tryz.underlying3 (show IntKind.i64.wrap ((d0 : Nat) : Int) = ((d0 : Nat) : Int) from c32_i64 (by omega)))) ?_
  intro a hA
  refine seq_do hA rfl rfl rfl (does_move rfl) ?_
  intro a hA
  refine seq_do (v := .int .i64 0) hA rfl rfl rfl (does_bin rfl rfl (fun w => by kernel_rfl)) ?_
  intro a hA
  refine seq_do (v := .int .i64 (((d0 : Nat) : Int))) hA rfl rfl rfl (does_bin rfl rfl (ar_shl (n := 0) rfl rfl (shl0_i64 (by omega)))) ?_
  intro a hA
  refine seq_do (v := .int .i64 (((d0 : Nat) : Int))) hA rfl rfl rfl (does_bin rfl rfl (ar_or (or0_i64 (by omega)))) ?_
  intro a hA
  refine seq_do hA rfl rfl rfl (does_assign rfl) ?_
  intro a hA
  refine seq_end ?_
  refine hK10 _ _ ?_
  refine wp_region_lit ?_
  refine seq_do (v := .int .i64 1) hA rfl rfl rfl (does_bin rfl rfl (fun w => by kernel_rfl)) ?_
  intro a hA
  refine seq_do hA rfl rfl rfl (does_move rfl) ?_
  intro a hA
  refine seq_end ?_
  refine hK7 _ _ ?_
  refine rounds_k (fun K16 hK16 => ?_)
  refine wp_seq_k (fun K17 hK17 => ?_)
  refine wp_region_lit ?_
  refine seq_do (v := .bool true) hA rfl rfl rfl (does_bin rfl rfl (fun w => by kernel_rfl)) ?_
  intro a hA
  refine seq_end ?_
  refine hK17 _ _ ?_
  refine wp_seq_k (fun K18 hK18 => ?_)
  refine wp_cond_true (hA.ev rfl) ?_
  refine wp_skip ?_
  refine hK18 _ _ ?_
  refine wp_seq_k (fun K19 hK19 => ?_)
  refine wp_block ?_
  refine wp_seq_k (fun K20 hK20 => ?_)
  refine wp_region_lit ?_
  refine seq_do hA rfl rfl rfl (does_move rfl) ?_
  intro a hA
  have hi24 : 1 < ([d0, d1]).length := by first | (simp; done) | omega
  obtain ⟨b21, f22, hso23⟩ := Rd.addr (hS.rd 0 rfl) hi24
  refine seq_do (v := .pointer (some ⟨b21, f22 + 1, none⟩)) hA rfl rfl rfl (does_indexRow (k := 1) Tryz.underlying22 (by kernel_rfl) rfl rfl (by omega) hso23 (by omega)) ?_
  intro a hA
  refine seq_do (v := .int .u32 (((([d0, d1]).getD 1 0 : Nat) : Int))) hA rfl rfl rfl (does_loadRow (hS.rd 0 rfl) hso23 hi24 SmA_is1_66 rfl) ?_
  intro a hA
  refine seq_do hA rfl rfl rfl (does_assign rfl) ?_
  intro a hA
  refine seq_do hA rfl rfl rfl (does_assign rfl) ?_
  intro a hA
  refine seq_end ?_
  refine hK20 _ _ ?_
  refine wp_region_lit ?_
  refine seq_do hA rfl rfl rfl (does_move rfl) ?_
  intro a hA
  refine seq_do hA rfl rfl rfl (does_move rfl) ?_
  intro a hA
  refine seq_do (v := .int .i64 (((d1 : Nat) : Int))) hA rfl rfl rfl (does_convert rfl (ar_conv Tryz.underlying66 Tryz.underlying3 (show IntKind.i64.wrap ((d1 : Nat) : Int) = ((d1 : Nat) : Int) from c32_i64 (by omega)))) ?_
  intro a hA
  refine seq_do hA rfl rfl rfl (does_move rfl) ?_
  intro a hA
  refine seq_do (v := .int .i64 32) hA rfl rfl rfl (does_bin rfl rfl (fun w => by kernel_rfl)) ?_
  intro a hA
  refine seq_do (v := .int .i64 (((y : Nat) : Int))) hA rfl rfl rfl (does_bin rfl rfl (ar_shl (n := 32) rfl rfl (shl32_y (by omega) hy))) ?_
  intro a hA
  refine seq_do (v := .int .i64 (((x : Nat) : Int))) hA rfl rfl rfl (does_bin rfl rfl (ar_or (or2_y (by omega) (by omega) hy hx))) ?_
  intro a hA
  refine seq_do hA rfl rfl rfl (does_assign rfl) ?_
  intro a hA
  refine seq_end ?_
  refine hK19 _ _ ?_
  refine wp_region_lit ?_
  refine seq_do (v := .int .i64 2) hA rfl rfl rfl (does_bin rfl rfl (fun w => by kernel_rfl)) ?_
  intro a hA
  refine seq_do hA rfl rfl rfl (does_move rfl) ?_
  intro a hA
  refine seq_end ?_
  refine hK16 _ _ ?_
  refine rounds_k (fun K25 hK25 => ?_)
  refine wp_seq_k (fun K26 hK26 => ?_)
  refine wp_region_lit ?_
  refine seq_do (v := .bool false) hA rfl rfl rfl (does_bin rfl rfl (fun w => by kernel_rfl)) ?_
  intro a hA
  refine seq_end ?_
  refine hK26 _ _ ?_
  refine wp_seq_k (fun K27 hK27 => ?_)
  refine wp_cond_false (hA.ev rfl) ?_
  refine wp_exit ?_
  refine hK5 _ _ ?_
  refine wp_seq_k (fun K28 hK28 => ?_)
  refine wp_seq_k (fun K29 hK29 => ?_)
  refine wp_region_lit ?_
  refine seq_do (v := .pointer (some ⟨g2, 0, none⟩)) hA rfl rfl rfl (does_field SmA_fld_24_0 rfl rfl) ?_
  intro a hA
  refine seq_do hA rfl rfl rfl (does_load1 hS SmA_is1_4 rfl 0 rfl rfl) ?_
  intro a hA
  refine seq_end ?_
  refine hK29 _ _ ?_
  refine wp_cond_false (hA.ev rfl) ?_
  refine wp_skip ?_
  refine hK28 _ _ ?_
  refine wp_seq_k (fun K30 hK30 => ?_)
  refine wp_region_lit ?_
  refine seq_do hA rfl rfl rfl (does_move rfl) ?_
  intro a hA
  refine seq_do hA rfl rfl rfl (does_assign rfl) ?_
  intro a hA
  refine seq_end ?_
  refine hK30 _ _ ?_
  refine wp_ret ?_
  refine hret _ _ ?_
  refine ends (v := .int .i64 (((x : Nat) : Int))) hA rfl (.cons (res_tmp rfl) .nil) rfl ?_
  exact ⟨by first | rfl | (simp only [sgn]; rfl) | decide, hS.bel⟩
theorem intOf2t_any {w : World} {a1 a2 : Option Addr} {ac1 ac2 m2 : Nat} {d0 d1 y x : Nat} (h0 : d0 < 4294967296) (h1 : d1 < 2147483648) (hy : d1 * 4294967296 = y) (hx : d0 + y = x) (hx9 : x ≤ 9223372036854775807) (ha : Rd w a1 [d0, d1]) : Calls Tryz.prog 52 #[.agg #[.bool true, .slice a1 2 ac1, .slice a2 m2 ac2]] w fun e w' => e = .returned (.int .i64 (sgn true (x))) ∧ Below w.heap.size w w' := by
  have hS : St w w [] [(a1, [d0, d1])] [] := (St.start w).addR ha
  refine walk_of (l := [(0, .agg #[.bool true, .slice a1 2 ac1, .slice a2 m2 ac2])]) Tryz.func52 rfl Tryz.ntmps52 rfl rfl ?_
  intro Q hret hnorm hP a hA
  refine wp_seq_k (fun K1 hK1 => ?_)
  refine wp_region_lit ?_
  refine seq_new (vs := [.bool true, .slice a1 2 ac1, .slice a2 m2 ac2]) (t := 24) hA hS rfl rfl rfl (fun g => .pointer (some ⟨g, 0, none⟩)) (does_box rfl rfl) rfl ?_
  intro g2 w3 hS a hA
  refine seq_do hA rfl rfl rfl (does_assign rfl) ?_
  intro a hA
  refine seq_end ?_
  refine hK1 _ _ ?_
  refine wp_seq_k (fun K4 hK4 => ?_)
  refine wp_region_lit ?_
  refine seq_do hA rfl rfl rfl (does_assign rfl) ?_
  intro a hA
  refine seq_end ?_
  refine hK4 _ _ ?_
  refine wp_seq_k (fun K5 hK5 => ?_)
  refine wp_seq_k (fun K6 hK6 => ?_)
  refine wp_region_lit ?_
  refine seq_do (v := .pointer (some ⟨g2, 1, none⟩)) hA rfl rfl rfl (does_field SmA_fld_24_1 rfl rfl) ?_
  intro a hA
  refine seq_do hA rfl rfl rfl (does_load1 hS SmA_is1_22 rfl 0 rfl rfl) ?_
  intro a hA
  refine seq_do (v := .int .i64 2) hA rfl rfl rfl (does_len Tryz.underlying22 rfl) ?_
  intro a hA
  refine seq_do hA rfl rfl rfl (does_move rfl) ?_
  intro a hA
  refine seq_end ?_
  refine hK6 _ _ ?_
  refine wp_block ?_
  refine wp_loop_rounds 12 ?_
  refine rounds_k (fun K7 hK7 => ?_)
  refine wp_seq_k (fun K8 hK8 => ?_)
  refine wp_region_lit ?_
  refine seq_do (v := .bool true) hA rfl rfl rfl (does_bin rfl rfl (fun w => by kernel_rfl)) ?_
  intro a hA
  refine seq_end ?_
  refine hK8 _ _ ?_
  refine wp_seq_k (fun K9 hK9 => ?_)
  refine wp_cond_true (hA.ev rfl) ?_
  refine wp_skip ?_
  refine hK9 _ _ ?_
  refine wp_seq_k (fun K10 hK10 => ?_)
  refine wp_block ?_
  refine wp_seq_k (fun K11 hK11 => ?_)
  refine wp_region_lit ?_
  refine seq_do hA rfl rfl rfl (does_move rfl) ?_
  intro a hA
  have hi15 : 0 < ([d0, d1]).length := by first | (simp; done) | omega
  obtain ⟨b12, f13, hso14⟩ := Rd.addr (hS.rd 0 rfl) hi15
  refine seq_do (v := .pointer (some ⟨b12, f13 + 0, none⟩)) hA rfl rfl rfl (does_indexRow (k := 0) Tryz.underlying22 (by kernel_rfl) rfl rfl (by omega) hso14 (by omega)) ?_
  intro a hA
  refine seq_do (v := .int .u32 (((([d0, d1]).getD 0 0 : Nat) : Int))) hA rfl rfl rfl (does_loadRow (hS.rd 0 rfl) hso14 hi15 SmA_is1_66 rfl) ?_
  intro a hA
  refine seq_do hA rfl rfl rfl (does_assign rfl) ?_
  intro a hA
  refine seq_do hA rfl rfl rfl (does_assign rfl) ?_
  intro a hA
  refine seq_end ?_
  refine hK11 _ _ ?_
  refine wp_region_lit ?_
  refine seq_do hA rfl rfl rfl (does_move rfl) ?_
  intro a hA
  refine seq_do hA rfl rfl rfl (does_move rfl) ?_
  intro a hA
  refine seq_do (v := .int .i64 (((d0 : Nat) : Int))) hA rfl rfl rfl (does_convert rfl (ar_conv Tryz.underlying66 Tryz.underlying3 (show IntKind.i64.wrap ((d0 : Nat) : Int) = ((d0 : Nat) : Int) from c32_i64 (by omega)))) ?_
  intro a hA
  refine seq_do hA rfl rfl rfl (does_move rfl) ?_
  intro a hA
  refine seq_do (v := .int .i64 0) hA rfl rfl rfl (does_bin rfl rfl (fun w => by kernel_rfl)) ?_
  intro a hA
  refine seq_do (v := .int .i64 (((d0 : Nat) : Int))) hA rfl rfl rfl (does_bin rfl rfl (ar_shl (n := 0) rfl rfl (shl0_i64 (by omega)))) ?_
  intro a hA
  refine seq_do (v := .int .i64 (((d0 : Nat) : Int))) hA rfl rfl rfl (does_bin rfl rfl (ar_or (or0_i64 (by omega)))) ?_
  intro a hA
  refine seq_do hA rfl rfl rfl (does_assign rfl) ?_
  intro a hA
  refine seq_end ?_
  refine hK10 _ _ ?_
  refine wp_region_lit ?_
  refine seq_do (v := .int .i64 1) hA rfl rfl rfl (does_bin rfl rfl (fun w => by kernel_rfl)) ?_
  intro a hA
  refine seq_do hA rfl rfl rfl (does_move rfl) ?_
  intro a hA
  refine seq_end ?_
  refine hK7 _ _ ?_
  refine rounds_k (fun K16 hK16 => ?_)
  refine wp_seq_k (fun K17 hK17 => ?_)
  refine wp_region_lit ?_
  refine seq_do (v := .bool true) hA rfl rfl rfl (does_bin rfl rfl (fun w => by kernel_rfl)) ?_
  intro a hA
  refine seq_end ?_
  refine hK17 _ _ ?_
  refine wp_seq_k (fun K18 hK18 => ?_)
  refine wp_cond_true (hA.ev rfl) ?_
  refine wp_skip ?_
  refine hK18 _ _ ?_
  refine wp_seq_k (fun K19 hK19 => ?_)
  refine wp_block ?_
  refine wp_seq_k (fun K20 hK20 => ?_)
  refine wp_region_lit ?_
  refine seq_do hA rfl rfl rfl (does_move rfl) ?_
  intro a hA
  have hi24 : 1 < ([d0, d1]).length := by first | (simp; done) | omega
  obtain ⟨b21, f22, hso23⟩ := Rd.addr (hS.rd 0 rfl) hi24
  refine seq_do (v := .pointer (some ⟨b21, f22 + 1, none⟩)) hA rfl rfl rfl (does_indexRow (k := 1) Tryz.underlying22 (by kernel_rfl) rfl rfl (by omega) hso23 (by omega)) ?_
  intro a hA
  refine seq_do (v := .int .u32 (((([d0, d1]).getD 1 0 : Nat) : Int))) hA rfl rfl rfl (does_loadRow (hS.rd 0 rfl) hso23 hi24 SmA_is1_66 rfl) ?_
  intro a hA
  refine seq_do hA rfl rfl rfl (does_assign rfl) ?_
  intro a hA
  refine seq_do hA rfl rfl rfl (does_assign rfl) ?_
  intro a hA
  refine seq_end ?_
  refine hK20 _ _ ?_
  refine wp_region_lit ?_
  refine seq_do hA rfl rfl rfl (does_move rfl) ?_
  intro a hA
  refine seq_do hA rfl rfl rfl (does_move rfl) ?_
  intro a hA
  refine seq_do (v := .int .i64 (((d1 : Nat) : Int))) hA rfl rfl rfl (does_convert rfl (ar_conv Tryz.underlying66 Tryz.underlying3 (show IntKind.i64.wrap ((d1 : Nat) : Int) = ((d1 : Nat) : Int) from c32_i64 (by omega)))) ?_
  intro a hA
  refine seq_do hA rfl rfl rfl (does_move rfl) ?_
  intro a hA
  refine seq_do (v := .int .i64 32) hA rfl rfl rfl (does_bin rfl rfl (fun w => by kernel_rfl)) ?_
  intro a hA
  refine seq_do (v := .int .i64 (((y : Nat) : Int))) hA rfl rfl rfl (does_bin rfl rfl (ar_shl (n := 32) rfl rfl (shl32_y (by omega) hy))) ?_
  intro a hA
  refine seq_do (v := .int .i64 (((x : Nat) : Int))) hA rfl rfl rfl (does_bin rfl rfl (ar_or (or2_y (by omega) (by omega) hy hx))) ?_
  intro a hA
  refine seq_do hA rfl rfl rfl (does_assign rfl) ?_
  intro a hA
  refine seq_end ?_
  refine hK19 _ _ ?_
  refine wp_region_lit ?_
  refine seq_do (v := .int .i64 2) hA rfl rfl rfl (does_bin rfl rfl (fun w => by kernel_rfl)) ?_
  intro a hA
  refine seq_do hA rfl rfl rfl (does_move rfl) ?_
  intro a hA
  refine seq_end ?_
  refine hK16 _ _ ?_
  refine rounds_k (fun K25 hK25 => ?_)
  refine wp_seq_k (fun K26 hK26 => ?_)
  refine wp_region_lit ?_
  refine seq_do (v := .bool false) hA rfl rfl rfl (does_bin rfl rfl (fun w => by kernel_rfl)) ?_
  intro a hA
  refine seq_end ?_
  refine hK26 _ _ ?_
  refine wp_seq_k (fun K27 hK27 => ?_)
  refine wp_cond_false (hA.ev rfl) ?_
  refine wp_exit ?_
  refine hK5 _ _ ?_
  refine wp_seq_k (fun K28 hK28 => ?_)
  refine wp_seq_k (fun K29 hK29 => ?_)
  refine wp_region_lit ?_
  refine seq_do (v := .pointer (some ⟨g2, 0, none⟩)) hA rfl rfl rfl (does_field SmA_fld_24_0 rfl rfl) ?_
  intro a hA
  refine seq_do hA rfl rfl rfl (does_load1 hS SmA_is1_4 rfl 0 rfl rfl) ?_
  intro a hA
  refine seq_end ?_
  refine hK29 _ _ ?_
  refine wp_cond_true (hA.ev rfl) ?_
  refine wp_seq_k (fun K30 hK30 => ?_)
  refine wp_region_lit ?_
  refine seq_do hA rfl rfl rfl (does_move rfl) ?_
  intro a hA
  refine seq_do (v := .int .i64 (-(((x : Nat) : Int)))) hA rfl rfl rfl (does_un rfl (un_neg (i64In (by omega) (by omega)))) ?_
  intro a hA
  refine seq_do hA rfl rfl rfl (does_assign rfl) ?_
  intro a hA
  refine seq_end ?_
  refine hK30 _ _ ?_
  refine wp_ret ?_
  refine hret _ _ ?_
  refine ends (v := .int .i64 (-(((x : Nat) : Int)))) hA rfl (.cons (res_tmp rfl) .nil) rfl ?_
  exact ⟨by first | rfl | (simp only [sgn]; rfl) | decide, hS.bel⟩
theorem intOf3t_any {w : World} {a1 a2 : Option Addr} {ac1 ac2 m2 : Nat}  (ha : Rd w a1 [0, 2147483648]) : Calls Tryz.prog 52 #[.agg #[.bool true, .slice a1 2 ac1, .slice a2 m2 ac2]] w fun e w' => e = .returned (.int .i64 (sgn true (9223372036854775808))) ∧ Below w.heap.size w w' := by
  have hS : St w w [] [(a1, [0, 2147483648])] [] := (St.start w).addR ha
  refine walk_of (l := [(0, .agg #[.bool true, .slice a1 2 ac1, .slice a2 m2 ac2])]) Tryz.func52 rfl Tryz.ntmps52 rfl rfl ?_
  intro Q hret hnorm hP a hA
  refine wp_seq_k (fun K1 hK1 => ?_)
  refine wp_region_lit ?_
  refine seq_new (vs := [.bool true, .slice a1 2 ac1, .slice a2 m2 ac2]) (t := 24) hA hS rfl rfl rfl (fun g => .pointer (some ⟨g, 0, none⟩)) (does_box rfl rfl) rfl ?_
  intro g2 w3 hS a hA
  refine seq_do hA rfl rfl rfl (does_assign rfl) ?_
  intro a hA
  refine seq_end ?_
  refine hK1 _ _ ?_
  refine wp_seq_k (fun K4 hK4 => ?_)
  refine wp_region_lit ?_
  refine seq_do hA rfl rfl rfl (does_assign rfl) ?_
  intro a hA
  refine seq_end ?_
  refine hK4 _ _ ?_
  refine wp_seq_k (fun K5 hK5 => ?_)
  refine wp_seq_k (fun K6 hK6 => ?_)
  refine wp_region_lit ?_
  refine seq_do (v := .pointer (some ⟨g2, 1, none⟩)) hA rfl rfl rfl (does_field SmA_fld_24_1 rfl rfl) ?_
  intro a hA
  refine seq_do hA rfl rfl rfl (does_load1 hS SmA_is1_22 rfl 0 rfl rfl) ?_
  intro a hA
  refine seq_do (v := .int .i64 2) hA rfl rfl rfl (does_len Tryz.underlying22 rfl) ?_
  intro a hA
  refine seq_do hA rfl rfl rfl (does_move rfl) ?_
  intro a hA
  refine seq_end ?_
  refine hK6 _ _ ?_
  refine wp_block ?_
  refine wp_loop_rounds 12 ?_
  refine rounds_k (fun K7 hK7 => ?_)
  refine wp_seq_k (fun K8 hK8 => ?_)
  refine wp_region_lit ?_
  refine seq_do (v := .bool true) hA rfl rfl rfl (does_bin rfl rfl (fun w => by kernel_rfl)) ?_
  intro a hA
  refine seq_end ?_
  refine hK8 _ _ ?_
  refine wp_seq_k (fun K9 hK9 => ?_)
  refine wp_cond_true (hA.ev rfl) ?_
  refine wp_skip ?_
  refine hK9 _ _ ?_
  refine wp_seq_k (fun K10 hK10 => ?_)
  refine wp_block ?_
  refine wp_seq_k (fun K11 hK11 => ?_)
  refine wp_region_lit ?_
  refine seq_do hA rfl rfl rfl (does_move rfl) ?_
  intro a hA
  have hi15 : 0 < ([0, 2147483648]).length := by first | (simp; done) | omega
  obtain ⟨b12, f13, hso14⟩ := Rd.addr (hS.rd 0 rfl) hi15
  refine seq_do (v := .pointer (some ⟨b12, f13 + 0, none⟩)) hA rfl rfl rfl (does_indexRow (k := 0) Tryz.underlying22 (by kernel_rfl) rfl rfl (by omega) hso14 (by omega)) ?_
  intro a hA
  refine seq_do (v := .int .u32 (((([0, 2147483648]).getD 0 0 : Nat) : Int))) hA rfl rfl rfl (does_loadRow (hS.rd 0 rfl) hso14 hi15 SmA_is1_66 rfl) ?_
  intro a hA
  refine seq_do hA rfl rfl rfl (does_assign rfl) ?_
  intro a hA
  refine seq_do hA rfl rfl rfl (does_assign rfl) ?_
  intro a hA
  refine seq_end ?_
  refine hK11 _ _ ?_
  refine wp_region_lit ?_
  refine seq_do hA rfl rfl rfl (does_move rfl) ?_
  intro a hA
  refine seq_do hA rfl rfl rfl (does_move rfl) ?_
  intro a hA
  refine seq_do (v := .int .i64 0) hA rfl rfl rfl (does_convert rfl (ar_conv Tryz.underlying66 Tryz.underlying3 (show IntKind.i64.wrap ((0 : Nat) : Int) = 0 from by decide))) ?_
  intro a hA
  refine seq_do hA rfl rfl rfl (does_move rfl) ?_
  intro a hA
  refine seq_do (v := .int .i64 0) hA rfl rfl rfl (does_bin rfl rfl (fun w => by kernel_rfl)) ?_
  intro a hA
  refine seq_do (v := .int .i64 0) hA rfl rfl rfl (does_bin rfl rfl (ar_shl (n := 0) rfl rfl (by decide))) ?_
  intro a hA
  refine seq_do (v := .int .i64 0) hA rfl rfl rfl (does_bin rfl rfl (ar_or (by decide))) ?_
  intro a hA
  refine seq_do hA rfl rfl rfl (does_assign rfl) ?_
  intro a hA
  refine seq_end ?_
  refine hK10 _ _ ?_
  refine wp_region_lit ?_
  refine seq_do (v := .int .i64 1) hA rfl rfl rfl (does_bin rfl rfl (fun w => by kernel_rfl)) ?_
  intro a hA
  refine seq_do hA rfl rfl rfl (does_move rfl) ?_
  intro a hA
  refine seq_end ?_
  refine hK7 _ _ ?_
  refine rounds_k (fun K16 hK16 => ?_)
  refine wp_seq_k (fun K17 hK17 => ?_)
  refine wp_region_lit ?_
  refine seq_do (v := .bool true) hA rfl rfl rfl (does_bin rfl rfl (fun w => by kernel_rfl)) ?_
  intro a hA
  refine seq_end ?_
  refine hK17 _ _ ?_
  refine wp_seq_k (fun K18 hK18 => ?_)
  refine wp_cond_true (hA.ev rfl) ?_
  refine wp_skip ?_
  refine hK18 _ _ ?_
  refine wp_seq_k (fun K19 hK19 => ?_)
  refine wp_block ?_
  refine wp_seq_k (fun K20 hK20 => ?_)
  refine wp_region_lit ?_
  refine seq_do hA rfl rfl rfl (does_move rfl) ?_
  intro a hA
  have hi24 : 1 < ([0, 2147483648]).length := by first | (simp; done) | omega
  obtain ⟨b21, f22, hso23⟩ := Rd.addr (hS.rd 0 rfl) hi24
  refine seq_do (v := .pointer (some ⟨b21, f22 + 1, none⟩)) hA rfl rfl rfl (does_indexRow (k := 1) Tryz.underlying22 (by kernel_rfl) rfl rfl (by omega) hso23 (by omega)) ?_
  intro a hA
  refine seq_do (v := .int .u32 (((([0, 2147483648]).getD 1 0 : Nat) : Int))) hA rfl rfl rfl (does_loadRow (hS.rd 0 rfl) hso23 hi24 SmA_is1_66 rfl) ?_
  intro a hA
  refine seq_do hA rfl rfl rfl (does_assign rfl) ?_
  intro a hA
  refine seq_do hA rfl rfl rfl (does_assign rfl) ?_
  intro a hA
  refine seq_end ?_
  refine hK20 _ _ ?_
  refine wp_region_lit ?_
  refine seq_do hA rfl rfl rfl (does_move rfl) ?_
  intro a hA
  refine seq_do hA rfl rfl rfl (does_move rfl) ?_
  intro a hA
  refine seq_do (v := .int .i64 2147483648) hA rfl rfl rfl (does_convert rfl (ar_conv Tryz.underlying66 Tryz.underlying3 (show IntKind.i64.wrap ((2147483648 : Nat) : Int) = 2147483648 from by decide))) ?_
  intro a hA
  refine seq_do hA rfl rfl rfl (does_move rfl) ?_
  intro a hA
  refine seq_do (v := .int .i64 32) hA rfl rfl rfl (does_bin rfl rfl (fun w => by kernel_rfl)) ?_
  intro a hA
  refine seq_do (v := .int .i64 (-9223372036854775808)) hA rfl rfl rfl (does_bin rfl rfl (ar_shl (n := 32) rfl rfl (by decide))) ?_
  intro a hA
  refine seq_do (v := .int .i64 (-9223372036854775808)) hA rfl rfl rfl (does_bin rfl rfl (ar_or (by decide))) ?_
  intro a hA
  refine seq_do hA rfl rfl rfl (does_assign rfl) ?_
  intro a hA
  refine seq_end ?_
  refine hK19 _ _ ?_
  refine wp_region_lit ?_
  refine seq_do (v := .int .i64 2) hA rfl rfl rfl (does_bin rfl rfl (fun w => by kernel_rfl)) ?_
  intro a hA
  refine seq_do hA rfl rfl rfl (does_move rfl) ?_
  intro a hA
  refine seq_end ?_
  refine hK16 _ _ ?_
  refine rounds_k (fun K25 hK25 => ?_)
  refine wp_seq_k (fun K26 hK26 => ?_)
  refine wp_region_lit ?_
  refine seq_do (v := .bool false) hA rfl rfl rfl (does_bin rfl rfl (fun w => by kernel_rfl)) ?_
  intro a hA
  refine seq_end ?_
  refine hK26 _ _ ?_
  refine wp_seq_k (fun K27 hK27 => ?_)
  refine wp_cond_false (hA.ev rfl) ?_
  refine wp_exit ?_
  refine hK5 _ _ ?_
  refine wp_seq_k (fun K28 hK28 => ?_)
  refine wp_seq_k (fun K29 hK29 => ?_)
  refine wp_region_lit ?_
  refine seq_do (v := .pointer (some ⟨g2, 0, none⟩)) hA rfl rfl rfl (does_field SmA_fld_24_0 rfl rfl) ?_
  intro a hA
  refine seq_do hA rfl rfl rfl (does_load1 hS SmA_is1_4 rfl 0 rfl rfl) ?_
  intro a hA
  refine seq_end ?_
  refine hK29 _ _ ?_
  refine wp_cond_true (hA.ev rfl) ?_
  refine wp_seq_k (fun K30 hK30 => ?_)
  refine wp_region_lit ?_
  refine seq_do hA rfl rfl rfl (does_move rfl) ?_
  intro a hA
  refine seq_do (v := .int .i64 (-9223372036854775808)) hA rfl rfl rfl (does_un rfl (ar_neg (by decide))) ?_
  intro a hA
  refine seq_do hA rfl rfl rfl (does_assign rfl) ?_
  intro a hA
  refine seq_end ?_
  refine hK30 _ _ ?_
  refine wp_ret ?_
  refine hret _ _ ?_
  refine ends (v := .int .i64 (-9223372036854775808)) hA rfl (.cons (res_tmp rfl) .nil) rfl ?_
  exact ⟨by first | rfl | (simp only [sgn]; rfl) | decide, hS.bel⟩
theorem intOf_any {w : World} {b : Bool} {x : Nat} {a1 a2 : Option Addr} {ac1 ac2 m2 : Nat} (ha : Rd w a1 (words x)) (hx : x ≤ 9223372036854775807 + b.toNat) : Calls Tryz.prog 52 #[.agg #[.bool b, .slice a1 (words x).length ac1, .slice a2 m2 ac2]] w fun e w' => e = .returned (.int .i64 (sgn b x)) ∧ Below w.heap.size w w' := by
  by_cases k0 : x = 0
  · subst k0
    rw [words_zero] at *
    cases b
    · exact intOf0f_any ha
    · exact intOf0t_any ha
  by_cases k1 : x < 4294967296
  · rw [words_single k0 k1] at *
    cases b
    · exact intOf1f_any k1 ha
    · exact intOf1t_any k1 ha
  have hb : b.toNat ≤ 1 := by cases b <;> decide
  rw [words_double (by omega) (by omega)] at *
  by_cases k2 : x = 9223372036854775808
  · subst k2
    cases b
    · simp at hx
    · exact intOf3t_any ha
  have hx9 : x ≤ 9223372036854775807 := by omega
  cases b
  · exact intOf2f_any (d0 := x % 4294967296) (d1 := x / 4294967296) (by omega) (by omega) rfl (by omega) hx9 ha
  · exact intOf2t_any (d0 := x % 4294967296) (d1 := x / 4294967296) (by omega) (by omega) rfl (by omega) hx9 ha
theorem smallE0_any {w : World} {q : Q6} {a1 a2 a3 a4 : Option Addr} {ac1 ac2 ac3 ac4 : Nat} (ha : Nm w q a1 ac1 a2 ac2 a3 ac3 a4 ac4) (hl : LenQ q) (h1 : soundQ q = false) : Calls Tryz.prog 14 #[numV q a1 ac1 a2 ac2 a3 ac3 a4 ac4] w fun e w' => e = .returned (.tuple #[.int .i64 0, .int .i64 2]) ∧ Below w.heap.size w w' := by
  have hS : St w w [] [(a4, q.q2), (a3, q.t2), (a2, q.q1), (a1, q.t1)] [] := ((((St.start w).addR ha.s1.rd).addR ha.s2.rd).addR ha.s3.rd).addR ha.s4.rd
  refine walk_of (l := [(0, .agg #[.bool q.b1, .slice a1 q.t1.length ac1, .slice a2 q.q1.length ac2, .bool q.b2, .slice a3 q.t2.length ac3, .slice a4 q.q2.length ac4])]) Tryz.func14 rfl Tryz.ntmps14 rfl rfl ?_
  intro Q hret hnorm hP a hA
  refine wp_seq_k (fun K1 hK1 => ?_)
  refine wp_region_lit ?_
  refine seq_new (vs := [.bool q.b1, .slice a1 q.t1.length ac1, .slice a2 q.q1.length ac2, .bool q.b2, .slice a3 q.t2.length ac3, .slice a4 q.q2.length ac4]) (t := 26) hA hS rfl rfl rfl (fun g => .pointer (some ⟨g, 0, none⟩)) (does_box rfl rfl) rfl ?_
  intro g2 w3 hS a hA
  refine seq_do hA rfl rfl rfl (does_assign rfl) ?_
  intro a hA
  refine seq_do hA rfl rfl rfl (does_assign rfl) ?_
  intro a hA
  refine seq_end ?_
  refine hK1 _ _ ?_
  refine wp_seq_k (fun K4 hK4 => ?_)
  refine wp_seq_k (fun K5 hK5 => ?_)
  refine wp_region_lit ?_
  refine seq_do (v := .agg #[.bool q.b1, .slice a1 q.t1.length ac1, .slice a2 q.q1.length ac2, .bool q.b2, .slice a3 q.t2.length ac3, .slice a4 q.q2.length ac4]) hA rfl rfl rfl (does_loadS hS SmA_isS_26 rfl 0 rfl (cs := [.bool q.b1, .slice a1 q.t1.length ac1, .slice a2 q.q1.length ac2, .bool q.b2, .slice a3 q.t2.length ac3, .slice a4 q.q2.length ac4]) rfl rfl) ?_
  intro a hA
  refine seq_call hA rfl rfl rfl (enters_func  rfl rfl (fun w => by kernel_rfl)) (soundQ_any (show Nm _ _ a1 ac1 a2 ac2 a3 ac3 a4 ac4 from ⟨⟨(hS.rd 3 rfl), ha.s1.nil, ha.s1.cap⟩, ⟨(hS.rd 2 rfl), ha.s2.nil, ha.s2.cap⟩, ⟨(hS.rd 1 rfl), ha.s3.nil, ha.s3.cap⟩, ⟨(hS.rd 0 rfl), ha.s4.nil, ha.s4.cap⟩⟩) hl h1) ?_
  rintro _ w7 ⟨rfl, hb6⟩
  replace hS := hS.call hb6
  refine ⟨_, rfl, ?_⟩
  intro a hA
  refine seq_do (v := .bool true) hA rfl rfl rfl (does_un rfl un_not) ?_
  intro a hA
  refine seq_end ?_
  refine hK5 _ _ ?_
  refine wp_cond_true (hA.ev rfl) ?_
  refine wp_seq_k (fun K8 hK8 => ?_)
  refine wp_region_lit ?_
  refine seq_do hA rfl rfl rfl (does_assign rfl) ?_
  intro a hA
  refine seq_do hA rfl rfl rfl (does_assign rfl) ?_
  intro a hA
  refine seq_end ?_
  refine hK8 _ _ ?_
  refine wp_ret ?_
  refine hret _ _ ?_
  refine ends (v := .tuple #[.int .i64 0, .int .i64 2]) hA rfl (.cons (res_tmp rfl) (.cons (res_tmp rfl) .nil)) rfl ?_
  exact ⟨rfl, hS.bel⟩
theorem smallE1_any {w : World} {q : Q6} {a1 a2 a3 a4 : Option Addr} {ac1 ac2 ac3 ac4 : Nat} (ha : Nm w q a1 ac1 a2 ac2 a3 ac3 a4 ac4) (hl : LenQ q) (h1 : soundQ q = true) (h2 : decide (q.t2.length = 0) = false) : Calls Tryz.prog 14 #[numV q a1 ac1 a2 ac2 a3 ac3 a4 ac4] w fun e w' => e = .returned (.tuple #[.int .i64 0, .int .i64 10]) ∧ Below w.heap.size w w' := by
  have hS : St w w [] [(a4, q.q2), (a3, q.t2), (a2, q.q1), (a1, q.t1)] [] := ((((St.start w).addR ha.s1.rd).addR ha.s2.rd).addR ha.s3.rd).addR ha.s4.rd
  refine walk_of (l := [(0, .agg #[.bool q.b1, .slice a1 q.t1.length ac1, .slice a2 q.q1.length ac2, .bool q.b2, .slice a3 q.t2.length ac3, .slice a4 q.q2.length ac4])]) Tryz.func14 rfl Tryz.ntmps14 rfl rfl ?_
  intro Q hret hnorm hP a hA
  refine wp_seq_k (fun K1 hK1 => ?_)
  refine wp_region_lit ?_
  refine seq_new (vs := [.bool q.b1, .slice a1 q.t1.length ac1, .slice a2 q.q1.length ac2, .bool q.b2, .slice a3 q.t2.length ac3, .slice a4 q.q2.length ac4]) (t := 26) hA hS rfl rfl rfl (fun g => .pointer (some ⟨g, 0, none⟩)) (does_box rfl rfl) rfl ?_
  intro g2 w3 hS a hA
  refine seq_do hA rfl rfl rfl (does_assign rfl) ?_
  intro a hA
  refine seq_do hA rfl rfl rfl (does_assign rfl) ?_
  intro a hA
  refine seq_end ?_
  refine hK1 _ _ ?_
  refine wp_seq_k (fun K4 hK4 => ?_)
  refine wp_seq_k (fun K5 hK5 => ?_)
  refine wp_region_lit ?_
  refine seq_do (v := .agg #[.bool q.b1, .slice a1 q.t1.length ac1, .slice a2 q.q1.length ac2, .bool q.b2, .slice a3 q.t2.length ac3, .slice a4 q.q2.length ac4]) hA rfl rfl rfl (does_loadS hS SmA_isS_26 rfl 0 rfl (cs := [.bool q.b1, .slice a1 q.t1.length ac1, .slice a2 q.q1.length ac2, .bool q.b2, .slice a3 q.t2.length ac3, .slice a4 q.q2.length ac4]) rfl rfl) ?_
  intro a hA
  refine seq_call hA rfl rfl rfl (enters_func  rfl rfl (fun w => by kernel_rfl)) (soundQ_any (show Nm _ _ a1 ac1 a2 ac2 a3 ac3 a4 ac4 from ⟨⟨(hS.rd 3 rfl), ha.s1.nil, ha.s1.cap⟩, ⟨(hS.rd 2 rfl), ha.s2.nil, ha.s2.cap⟩, ⟨(hS.rd 1 rfl), ha.s3.nil, ha.s3.cap⟩, ⟨(hS.rd 0 rfl), ha.s4.nil, ha.s4.cap⟩⟩) hl h1) ?_
  rintro _ w7 ⟨rfl, hb6⟩
  replace hS := hS.call hb6
  refine ⟨_, rfl, ?_⟩
  intro a hA
  refine seq_do (v := .bool false) hA rfl rfl rfl (does_un rfl un_not) ?_
  intro a hA
  refine seq_end ?_
  refine hK5 _ _ ?_
  refine wp_cond_false (hA.ev rfl) ?_
  refine wp_skip ?_
  refine hK4 _ _ ?_
  refine wp_seq_k (fun K8 hK8 => ?_)
  refine wp_seq_k (fun K9 hK9 => ?_)
  refine wp_region_lit ?_
  refine seq_do (v := .agg #[.bool q.b1, .slice a1 q.t1.length ac1, .slice a2 q.q1.length ac2, .bool q.b2, .slice a3 q.t2.length ac3, .slice a4 q.q2.length ac4]) hA rfl rfl rfl (does_loadS hS SmA_isS_26 rfl 0 rfl (cs := [.bool q.b1, .slice a1 q.t1.length ac1, .slice a2 q.q1.length ac2, .bool q.b2, .slice a3 q.t2.length ac3, .slice a4 q.q2.length ac4]) rfl rfl) ?_
  intro a hA
  refine seq_call hA rfl rfl rfl (enters_func  rfl rfl (fun w => by kernel_rfl)) (isRealQ_any hl h2) ?_
  rintro _ w11 ⟨rfl, hb10⟩
  replace hS := hS.call hb10
  refine ⟨_, rfl, ?_⟩
  intro a hA
  refine seq_do (v := .bool true) hA rfl rfl rfl (does_un rfl un_not) ?_
  intro a hA
  refine seq_do hA rfl rfl rfl (does_move rfl) ?_
  intro a hA
  refine seq_skip hA rfl rfl rfl ?_
  intro a hA
  refine seq_skip hA rfl rfl rfl ?_
  intro a hA
  refine seq_skip hA rfl rfl rfl ?_
  intro a hA
  refine seq_skip hA rfl rfl rfl ?_
  intro a hA
  refine seq_skip hA rfl rfl rfl ?_
  intro a hA
  refine seq_do (v := .bool true) hA rfl rfl rfl (does_pick rfl rfl rfl rfl) ?_
  intro a hA
  refine seq_end ?_
  refine hK9 _ _ ?_
  refine wp_cond_true (hA.ev rfl) ?_
  refine wp_seq_k (fun K12 hK12 => ?_)
  refine wp_region_lit ?_
  refine seq_do hA rfl rfl rfl (does_assign rfl) ?_
  intro a hA
  refine seq_do hA rfl rfl rfl (does_assign rfl) ?_
  intro a hA
  refine seq_end ?_
  refine hK12 _ _ ?_
  refine wp_ret ?_
  refine hret _ _ ?_
  refine ends (v := .tuple #[.int .i64 0, .int .i64 10]) hA rfl (.cons (res_tmp rfl) (.cons (res_tmp rfl) .nil)) rfl ?_
  exact ⟨rfl, hS.bel⟩
theorem smallE2_any {w : World} {q : Q6} {a1 a2 a3 a4 : Option Addr} {ac1 ac2 ac3 ac4 : Nat} (ha : Nm w q a1 ac1 a2 ac2 a3 ac3 a4 ac4) (hl : LenQ q) (h1 : soundQ q = true) (h2 : decide (q.t2.length = 0) = true) (h3 : decide (q.q1 = [1]) = false) : Calls Tryz.prog 14 #[numV q a1 ac1 a2 ac2 a3 ac3 a4 ac4] w fun e w' => e = .returned (.tuple #[.int .i64 0, .int .i64 10]) ∧ Below w.heap.size w w' := by
  have hS : St w w [] [(a4, q.q2), (a3, q.t2), (a2, q.q1), (a1, q.t1)] [] := ((((St.start w).addR ha.s1.rd).addR ha.s2.rd).addR ha.s3.rd).addR ha.s4.rd
  refine walk_of (l := [(0, .agg #[.bool q.b1, .slice a1 q.t1.length ac1, .slice a2 q.q1.length ac2, .bool q.b2, .slice a3 q.t2.length ac3, .slice a4 q.q2.length ac4])]) Tryz.func14 rfl Tryz.ntmps14 rfl rfl ?_
  intro Q hret hnorm hP a hA
  refine wp_seq_k (fun K1 hK1 => ?_)
  refine wp_region_lit ?_
  refine seq_new (vs := [.bool q.b1, .slice a1 q.t1.length ac1, .slice a2 q.q1.length ac2, .bool q.b2, .slice a3 q.t2.length ac3, .slice a4 q.q2.length ac4]) (t := 26) hA hS rfl rfl rfl (fun g => .pointer (some ⟨g, 0, none⟩)) (does_box rfl rfl) rfl ?_
  intro g2 w3 hS a hA
  refine seq_do hA rfl rfl rfl (does_assign rfl) ?_
  intro a hA
  refine seq_do hA rfl rfl rfl (does_assign rfl) ?_
  intro a hA
  refine seq_end ?_
  refine hK1 _ _ ?_
  refine wp_seq_k (fun K4 hK4 => ?_)
  refine wp_seq_k (fun K5 hK5 => ?_)
  refine wp_region_lit ?_
  refine seq_do (v := .agg #[.bool q.b1, .slice a1 q.t1.length ac1, .slice a2 q.q1.length ac2, .bool q.b2, .slice a3 q.t2.length ac3, .slice a4 q.q2.length ac4]) hA rfl rfl rfl (does_loadS hS SmA_isS_26 rfl 0 rfl (cs := [.bool q.b1, .slice a1 q.t1.length ac1, .slice a2 q.q1.length ac2, .bool q.b2, .slice a3 q.t2.length ac3, .slice a4 q.q2.length ac4]) rfl rfl) ?_
  intro a hA
  refine seq_call hA rfl rfl rfl (enters_func  rfl rfl (fun w => by kernel_rfl)) (soundQ_any (show Nm _ _ a1 ac1 a2 ac2 a3 ac3 a4 ac4 from ⟨⟨(hS.rd 3 rfl), ha.s1.nil, ha.s1.cap⟩, ⟨(hS.rd 2 rfl), ha.s2.nil, ha.s2.cap⟩, ⟨(hS.rd 1 rfl), ha.s3.nil, ha.s3.cap⟩, ⟨(hS.rd 0 rfl), ha.s4.nil, ha.s4.cap⟩⟩) hl h1) ?_
  rintro _ w7 ⟨rfl, hb6⟩
  replace hS := hS.call hb6
  refine ⟨_, rfl, ?_⟩
  intro a hA
  refine seq_do (v := .bool false) hA rfl rfl rfl (does_un rfl un_not) ?_
  intro a hA
  refine seq_end ?_
  refine hK5 _ _ ?_
  refine wp_cond_false (hA.ev rfl) ?_
  refine wp_skip ?_
  refine hK4 _ _ ?_
  refine wp_seq_k (fun K8 hK8 => ?_)
  refine wp_seq_k (fun K9 hK9 => ?_)
  refine wp_region_lit ?_
  refine seq_do (v := .agg #[.bool q.b1, .slice a1 q.t1.length ac1, .slice a2 q.q1.length ac2, .bool q.b2, .slice a3 q.t2.length ac3, .slice a4 q.q2.length ac4]) hA rfl rfl rfl (does_loadS hS SmA_isS_26 rfl 0 rfl (cs := [.bool q.b1, .slice a1 q.t1.length ac1, .slice a2 q.q1.length ac2, .bool q.b2, .slice a3 q.t2.length ac3, .slice a4 q.q2.length ac4]) rfl rfl) ?_
  intro a hA
  refine seq_call hA rfl rfl rfl (enters_func  rfl rfl (fun w => by kernel_rfl)) (isRealQ_any hl h2) ?_
  rintro _ w11 ⟨rfl, hb10⟩
  replace hS := hS.call hb10
  refine ⟨_, rfl, ?_⟩
  intro a hA
  refine seq_do (v := .bool false) hA rfl rfl rfl (does_un rfl un_not) ?_
  intro a hA
  refine seq_do hA rfl rfl rfl (does_move rfl) ?_
  intro a hA
  refine seq_do (v := .pointer (some ⟨g2, 0, none⟩)) hA rfl rfl rfl (does_field SmA_fld_26_0 rfl rfl) ?_
  intro a hA
  refine seq_do (v := .pointer (some ⟨g2, 2, none⟩)) hA rfl rfl rfl (does_field SmA_fld_24_2 rfl rfl) ?_
  intro a hA
  refine seq_do hA rfl rfl rfl (does_load1 hS SmA_is1_22 rfl 0 rfl rfl) ?_
  intro a hA
  refine seq_call hA rfl rfl rfl (enters_func  rfl rfl (fun w => by kernel_rfl)) (isOneQ_any _ (hS.rd 2 rfl) hl.l2 h3) ?_
  rintro _ w13 ⟨rfl, hb12⟩
  replace hb12 := below_eq hb12
  replace hS := hS.call hb12
  refine ⟨_, rfl, ?_⟩
  intro a hA
  refine seq_do (v := .bool true) hA rfl rfl rfl (does_un rfl un_not) ?_
  intro a hA
  refine seq_do (v := .bool true) hA rfl rfl rfl (does_pick rfl rfl rfl rfl) ?_
  intro a hA
  refine seq_end ?_
  refine hK9 _ _ ?_
  refine wp_cond_true (hA.ev rfl) ?_
  refine wp_seq_k (fun K14 hK14 => ?_)
  refine wp_region_lit ?_
  refine seq_do hA rfl rfl rfl (does_assign rfl) ?_
  intro a hA
  refine seq_do hA rfl rfl rfl (does_assign rfl) ?_
  intro a hA
  refine seq_end ?_
  refine hK14 _ _ ?_
  refine wp_ret ?_
  refine hret _ _ ?_
  refine ends (v := .tuple #[.int .i64 0, .int .i64 10]) hA rfl (.cons (res_tmp rfl) (.cons (res_tmp rfl) .nil)) rfl ?_
  exact ⟨rfl, hS.bel⟩
theorem smallfL_any {w : World} {x : Nat} {a1 a2 a3 a4 : Option Addr} {ac1 ac2 ac3 ac4 : Nat} (ha : Nm w (Q6.whole false x) a1 ac1 a2 ac2 a3 ac3 a4 ac4) (hl : LenQ (Q6.whole false x)) (hs : soundQ (Q6.whole false x) = true) (hx : (words x).length ≤ 512) (hg : (words 9223372036854775807).length ≤ 512) (hc : ¬ x ≤ 9223372036854775807) : Calls Tryz.prog 14 #[numV (Q6.whole false x) a1 ac1 a2 ac2 a3 ac3 a4 ac4] w fun e w' => e = .returned (.tuple #[.int .i64 0, .int .i64 4]) ∧ Below w.heap.size w w' := by
  have hS : St w w [] [(a4, [1]), (a3, []), (a2, [1]), (a1, words x)] [] := ((((St.start w).addR ha.s1.rd).addR ha.s2.rd).addR ha.s3.rd).addR ha.s4.rd
  refine walk_of (l := [(0, .agg #[.bool false, .slice a1 ((words x).length) ac1, .slice a2 1 ac2, .bool false, .slice a3 0 ac3, .slice a4 1 ac4])]) Tryz.func14 rfl Tryz.ntmps14 rfl rfl ?_
  intro Q hret hnorm hP a hA
  refine wp_seq_k (fun K1 hK1 => ?_)
  refine wp_region_lit ?_
  refine seq_new (vs := [.bool false, .slice a1 ((words x).length) ac1, .slice a2 1 ac2, .bool false, .slice a3 0 ac3, .slice a4 1 ac4]) (t := 26) hA hS rfl rfl rfl (fun g => .pointer (some ⟨g, 0, none⟩)) (does_box rfl rfl) rfl ?_
  intro g2 w3 hS a hA
  refine seq_do hA rfl rfl rfl (does_assign rfl) ?_
  intro a hA
  refine seq_do hA rfl rfl rfl (does_assign rfl) ?_
  intro a hA
  refine seq_end ?_
  refine hK1 _ _ ?_
  refine wp_seq_k (fun K4 hK4 => ?_)
  refine wp_seq_k (fun K5 hK5 => ?_)
  refine wp_region_lit ?_
  refine seq_do (v := .agg #[.bool false, .slice a1 ((words x).length) ac1, .slice a2 1 ac2, .bool false, .slice a3 0 ac3, .slice a4 1 ac4]) hA rfl rfl rfl (does_loadS hS SmA_isS_26 rfl 0 rfl (cs := [.bool false, .slice a1 ((words x).length) ac1, .slice a2 1 ac2, .bool false, .slice a3 0 ac3, .slice a4 1 ac4]) rfl rfl) ?_
  intro a hA
  refine seq_call hA rfl rfl rfl (enters_func  rfl rfl (fun w => by kernel_rfl)) (soundQ_any (show Nm _ _ a1 ac1 a2 ac2 a3 ac3 a4 ac4 from ⟨⟨(hS.rd 3 rfl), ha.s1.nil, ha.s1.cap⟩, ⟨(hS.rd 2 rfl), ha.s2.nil, ha.s2.cap⟩, ⟨(hS.rd 1 rfl), ha.s3.nil, ha.s3.cap⟩, ⟨(hS.rd 0 rfl), ha.s4.nil, ha.s4.cap⟩⟩) hl hs) ?_
  rintro _ w7 ⟨rfl, hb6⟩
  replace hS := hS.call hb6
  refine ⟨_, rfl, ?_⟩
  intro a hA
  refine seq_do (v := .bool false) hA rfl rfl rfl (does_un rfl un_not) ?_
  intro a hA
  refine seq_end ?_
  refine hK5 _ _ ?_
  refine wp_cond_false (hA.ev rfl) ?_
  refine wp_skip ?_
  refine hK4 _ _ ?_
  refine wp_seq_k (fun K8 hK8 => ?_)
  refine wp_seq_k (fun K9 hK9 => ?_)
  refine wp_region_lit ?_
  refine seq_do (v := .agg #[.bool false, .slice a1 ((words x).length) ac1, .slice a2 1 ac2, .bool false, .slice a3 0 ac3, .slice a4 1 ac4]) hA rfl rfl rfl (does_loadS hS SmA_isS_26 rfl 0 rfl (cs := [.bool false, .slice a1 ((words x).length) ac1, .slice a2 1 ac2, .bool false, .slice a3 0 ac3, .slice a4 1 ac4]) rfl rfl) ?_
  intro a hA
  refine seq_call hA rfl rfl rfl (enters_func  rfl rfl (fun w => by kernel_rfl)) (isRealQ_any (q := Q6.whole false x) hl rfl) ?_
  rintro _ w11 ⟨rfl, hb10⟩
  replace hS := hS.call hb10
  refine ⟨_, rfl, ?_⟩
  intro a hA
  refine seq_do (v := .bool false) hA rfl rfl rfl (does_un rfl un_not) ?_
  intro a hA
  refine seq_do hA rfl rfl rfl (does_move rfl) ?_
  intro a hA
  refine seq_do (v := .pointer (some ⟨g2, 0, none⟩)) hA rfl rfl rfl (does_field SmA_fld_26_0 rfl rfl) ?_
  intro a hA
  refine seq_do (v := .pointer (some ⟨g2, 2, none⟩)) hA rfl rfl rfl (does_field SmA_fld_24_2 rfl rfl) ?_
  intro a hA
  refine seq_do hA rfl rfl rfl (does_load1 hS SmA_is1_22 rfl 0 rfl rfl) ?_
  intro a hA
  refine seq_call hA rfl rfl rfl (enters_func  rfl rfl (fun w => by kernel_rfl)) (isOneQ_any _ (hS.rd 2 rfl) (by decide) rfl) ?_
  rintro _ w13 ⟨rfl, hb12⟩
  replace hb12 := below_eq hb12
  replace hS := hS.call hb12
  refine ⟨_, rfl, ?_⟩
  intro a hA
  refine seq_do (v := .bool false) hA rfl rfl rfl (does_un rfl un_not) ?_
  intro a hA
  refine seq_do (v := .bool false) hA rfl rfl rfl (does_pick rfl rfl rfl rfl) ?_
  intro a hA
  refine seq_end ?_
  refine hK9 _ _ ?_
  refine wp_cond_false (hA.ev rfl) ?_
  refine wp_skip ?_
  refine hK8 _ _ ?_
  refine wp_seq_k (fun K14 hK14 => ?_)
  refine wp_region_lit ?_
  refine seq_do hA rfl rfl rfl (does_assign rfl) ?_
  intro a hA
  refine seq_end ?_
  refine hK14 _ _ ?_
  refine wp_seq_k (fun K15 hK15 => ?_)
  refine wp_seq_k (fun K16 hK16 => ?_)
  refine wp_region_lit ?_
  refine seq_do (v := .pointer (some ⟨g2, 0, none⟩)) hA rfl rfl rfl (does_field SmA_fld_26_0 rfl rfl) ?_
  intro a hA
  refine seq_do (v := .pointer (some ⟨g2, 0, none⟩)) hA rfl rfl rfl (does_field SmA_fld_24_0 rfl rfl) ?_
  intro a hA
  refine seq_do hA rfl rfl rfl (does_load1 hS SmA_is1_4 rfl 0 rfl rfl) ?_
  intro a hA
  refine seq_end ?_
  refine hK16 _ _ ?_
  refine wp_cond_false (hA.ev rfl) ?_
  refine wp_skip ?_
  refine hK15 _ _ ?_
  refine wp_seq_k (fun K17 hK17 => ?_)
  refine wp_seq_k (fun K18 hK18 => ?_)
  refine wp_draw (S := fun w1 => St w w1 [(g2, [.bool false, .slice a1 ((words x).length) ac1, .slice a2 1 ac2, .bool false, .slice a3 0 ac3, .slice a4 1 ac4])] [(a4, [1]), (a3, []), (a2, [1]), (a1, words x)] []) (by kernel_rfl) ?_
  replace hS := hS.drew
  refine any_take (v := .pointer (some ⟨g2, 0, none⟩)) hA 0 rfl rfl rfl rfl (by kernel_rfl) (by kernel_rfl) (by kernel_rfl) (fun c a w h => hP c a _ _ w h) hS (fun w1 hS => does_field SmA_fld_26_0 rfl rfl) ?_
  intro a hA
  refine any_take (v := .pointer (some ⟨g2, 1, none⟩)) hA 1 rfl rfl rfl rfl (by kernel_rfl) (by kernel_rfl) (by kernel_rfl) (fun c a w h => hP c a _ _ w h) hS (fun w1 hS => does_field SmA_fld_24_1 rfl rfl) ?_
  intro a hA
  refine any_take hA 2 rfl rfl rfl rfl (by kernel_rfl) (by kernel_rfl) (by kernel_rfl) (fun c a w h => hP c a _ _ w h) hS (fun w1 hS => does_load1 hS SmA_is1_22 rfl 0 rfl rfl) ?_
  intro a hA
  refine any_take hA 3 rfl rfl rfl rfl (by kernel_rfl) (by kernel_rfl) (by kernel_rfl) (fun c a w h => hP c a _ _ w h) hS (fun w1 hS => does_move rfl) ?_
  intro a hA
  refine any_one (by kernel_rfl) (op_call hA 4 rfl rfl rfl rfl (enters_func  rfl rfl (fun w => by kernel_rfl)) (of_any 9223372036854775807 _ (by decide)) ?_)
  rintro _ w23 ⟨ro19, rc20, rfl, ho21, hb22⟩
  replace hS := hS.call hb22
  replace hS := hS.addR ho21.rd
  refine ⟨_, rfl, (hS.partD (.refl _) 1 rfl (.refl _)), ?_⟩
  intro a hA
  refine any_one (by kernel_rfl) (op_call hA 5 rfl rfl rfl rfl (enters_func  rfl rfl (fun w => by kernel_rfl)) ((cmp_words hx hg ▸ cmp_any _ _ (hS.rd 4 rfl) (hS.rd 0 rfl) (by omega) (by omega))) ?_)
  rintro _ w25 ⟨rfl, hb24⟩
  replace hS := hS.call hb24
  refine ⟨_, rfl, (hS.partD (.refl _) 1 rfl (.refl _)), ?_⟩
  intro a hA
  refine any_take (v := .bool true) hA 6 rfl rfl rfl rfl (by kernel_rfl) (by kernel_rfl) (by kernel_rfl) (fun c a w h => hP c a _ _ w h) (hS.partD (.refl _) 1 rfl (.refl _)) (fun w1 hS => does_bin rfl rfl (fun w => (bin_gtr w).trans (by rw [show (decide (0 < cmpN x 9223372036854775807)) = true from (decide_eq_true (by unfold cmpN; split <;> (try split) <;> omega))]))) ?_
  intro a hA
  refine any_end (by kernel_rfl) ?_
  refine hK18 _ _ ?_
  refine wp_cond_true (hA.ev rfl) ?_
  refine wp_seq_k (fun K26 hK26 => ?_)
  refine wp_region_lit ?_
  refine seq_do hA rfl rfl rfl (does_assign rfl) ?_
  intro a hA
  refine seq_do hA rfl rfl rfl (does_assign rfl) ?_
  intro a hA
  refine seq_end ?_
  refine hK26 _ _ ?_
  refine wp_ret ?_
  refine hret _ _ ?_
  refine ends (v := .tuple #[.int .i64 0, .int .i64 4]) hA rfl (.cons (res_tmp rfl) (.cons (res_tmp rfl) .nil)) rfl ?_
  exact ⟨rfl, hS.bel⟩
theorem smallfS_any {w : World} {x : Nat} {a1 a2 a3 a4 : Option Addr} {ac1 ac2 ac3 ac4 : Nat} (ha : Nm w (Q6.whole false x) a1 ac1 a2 ac2 a3 ac3 a4 ac4) (hl : LenQ (Q6.whole false x)) (hs : soundQ (Q6.whole false x) = true) (hx : (words x).length ≤ 512) (hg : (words 9223372036854775807).length ≤ 512) (hc : x ≤ 9223372036854775807) : Calls Tryz.prog 14 #[numV (Q6.whole false x) a1 ac1 a2 ac2 a3 ac3 a4 ac4] w fun e w' => e = .returned (.tuple #[.int .i64 (sgn false x), .int .i64 0]) ∧ Below w.heap.size w w' := by
  have hS : St w w [] [(a4, [1]), (a3, []), (a2, [1]), (a1, words x)] [] := ((((St.start w).addR ha.s1.rd).addR ha.s2.rd).addR ha.s3.rd).addR ha.s4.rd
  refine walk_of (l := [(0, .agg #[.bool false, .slice a1 ((words x).length) ac1, .slice a2 1 ac2, .bool false, .slice a3 0 ac3, .slice a4 1 ac4])]) Tryz.func14 rfl Tryz.ntmps14 rfl rfl ?_
  intro Q hret hnorm hP a hA
  refine wp_seq_k (fun K1 hK1 => ?_)
  refine wp_region_lit ?_
  refine seq_new (vs := [.bool false, .slice a1 ((words x).length) ac1, .slice a2 1 ac2, .bool false, .slice a3 0 ac3, .slice a4 1 ac4]) (t := 26) hA hS rfl rfl rfl (fun g => .pointer (some ⟨g, 0, none⟩)) (does_box rfl rfl) rfl ?_
  intro g2 w3 hS a hA
  refine seq_do hA rfl rfl rfl (does_assign rfl) ?_
  intro a hA
  refine seq_do hA rfl rfl rfl (does_assign rfl) ?_
  intro a hA
  refine seq_end ?_
  refine hK1 _ _ ?_
  refine wp_seq_k (fun K4 hK4 => ?_)
  refine wp_seq_k (fun K5 hK5 => ?_)
  refine wp_region_lit ?_
  refine seq_do (v := .agg #[.bool false, .slice a1 ((words x).length) ac1, .slice a2 1 ac2, .bool false, .slice a3 0 ac3, .slice a4 1 ac4]) hA rfl rfl rfl (does_loadS hS SmA_isS_26 rfl 0 rfl (cs := [.bool false, .slice a1 ((words x).length) ac1, .slice a2 1 ac2, .bool false, .slice a3 0 ac3, .slice a4 1 ac4]) rfl rfl) ?_
  intro a hA
  refine seq_call hA rfl rfl rfl (enters_func  rfl rfl (fun w => by kernel_rfl)) (soundQ_any (show Nm _ _ a1 ac1 a2 ac2 a3 ac3 a4 ac4 from ⟨⟨(hS.rd 3 rfl), ha.s1.nil, ha.s1.cap⟩, ⟨(hS.rd 2 rfl), ha.s2.nil, ha.s2.cap⟩, ⟨(hS.rd 1 rfl), ha.s3.nil, ha.s3.cap⟩, ⟨(hS.rd 0 rfl), ha.s4.nil, ha.s4.cap⟩⟩) hl hs) ?_
  rintro _ w7 ⟨rfl, hb6⟩
  replace hS := hS.call hb6
  refine ⟨_, rfl, ?_⟩
  intro a hA
  refine seq_do (v := .bool false) hA rfl rfl rfl (does_un rfl un_not) ?_
  intro a hA
  refine seq_end ?_
  refine hK5 _ _ ?_
  refine wp_cond_false (hA.ev rfl) ?_
  refine wp_skip ?_
  refine hK4 _ _ ?_
  refine wp_seq_k (fun K8 hK8 => ?_)
  refine wp_seq_k (fun K9 hK9 => ?_)
  refine wp_region_lit ?_
  refine seq_do (v := .agg #[.bool false, .slice a1 ((words x).length) ac1, .slice a2 1 ac2, .bool false, .slice a3 0 ac3, .slice a4 1 ac4]) hA rfl rfl rfl (does_loadS hS SmA_isS_26 rfl 0 rfl (cs := [.bool false, .slice a1 ((words x).length) ac1, .slice a2 1 ac2, .bool false, .slice a3 0 ac3, .slice a4 1 ac4]) rfl rfl) ?_
  intro a hA
  refine seq_call hA rfl rfl rfl (enters_func  rfl rfl (fun w => by kernel_rfl)) (isRealQ_any (q := Q6.whole false x) hl rfl) ?_
  rintro _ w11 ⟨rfl, hb10⟩
  replace hS := hS.call hb10
  refine ⟨_, rfl, ?_⟩
  intro a hA
  refine seq_do (v := .bool false) hA rfl rfl rfl (does_un rfl un_not) ?_
  intro a hA
  refine seq_do hA rfl rfl rfl (does_move rfl) ?_
  intro a hA
  refine seq_do (v := .pointer (some ⟨g2, 0, none⟩)) hA rfl rfl rfl (does_field SmA_fld_26_0 rfl rfl) ?_
  intro a hA
  refine seq_do (v := .pointer (some ⟨g2, 2, none⟩)) hA rfl rfl rfl (does_field SmA_fld_24_2 rfl rfl) ?_
  intro a hA
  refine seq_do hA rfl rfl rfl (does_load1 hS SmA_is1_22 rfl 0 rfl rfl) ?_
  intro a hA
  refine seq_call hA rfl rfl rfl (enters_func  rfl rfl (fun w => by kernel_rfl)) (isOneQ_any _ (hS.rd 2 rfl) (by decide) rfl) ?_
  rintro _ w13 ⟨rfl, hb12⟩
  replace hb12 := below_eq hb12
  replace hS := hS.call hb12
  refine ⟨_, rfl, ?_⟩
  intro a hA
  refine seq_do (v := .bool false) hA rfl rfl rfl (does_un rfl un_not) ?_
  intro a hA
  refine seq_do (v := .bool false) hA rfl rfl rfl (does_pick rfl rfl rfl rfl) ?_
  intro a hA
  refine seq_end ?_
  refine hK9 _ _ ?_
  refine wp_cond_false (hA.ev rfl) ?_
  refine wp_skip ?_
  refine hK8 _ _ ?_
  refine wp_seq_k (fun K14 hK14 => ?_)
  refine wp_region_lit ?_
  refine seq_do hA rfl rfl rfl (does_assign rfl) ?_
  intro a hA
  refine seq_end ?_
  refine hK14 _ _ ?_
  refine wp_seq_k (fun K15 hK15 => ?_)
  refine wp_seq_k (fun K16 hK16 => ?_)
  refine wp_region_lit ?_
  refine seq_do (v := .pointer (some ⟨g2, 0, none⟩)) hA rfl rfl rfl (does_field SmA_fld_26_0 rfl rfl) ?_
  intro a hA
  refine seq_do (v := .pointer (some ⟨g2, 0, none⟩)) hA rfl rfl rfl (does_field SmA_fld_24_0 rfl rfl) ?_
  intro a hA
  refine seq_do hA rfl rfl rfl (does_load1 hS SmA_is1_4 rfl 0 rfl rfl) ?_
  intro a hA
  refine seq_end ?_
  refine hK16 _ _ ?_
  refine wp_cond_false (hA.ev rfl) ?_
  refine wp_skip ?_
  refine hK15 _ _ ?_
  refine wp_seq_k (fun K17 hK17 => ?_)
  refine wp_seq_k (fun K18 hK18 => ?_)
  refine wp_draw (S := fun w1 => St w w1 [(g2, [.bool false, .slice a1 ((words x).length) ac1, .slice a2 1 ac2, .bool false, .slice a3 0 ac3, .slice a4 1 ac4])] [(a4, [1]), (a3, []), (a2, [1]), (a1, words x)] []) (by kernel_rfl) ?_
  replace hS := hS.drew
  refine any_take (v := .pointer (some ⟨g2, 0, none⟩)) hA 0 rfl rfl rfl rfl (by kernel_rfl) (by kernel_rfl) (by kernel_rfl) (fun c a w h => hP c a _ _ w h) hS (fun w1 hS => does_field SmA_fld_26_0 rfl rfl) ?_
  intro a hA
  refine any_take (v := .pointer (some ⟨g2, 1, none⟩)) hA 1 rfl rfl rfl rfl (by kernel_rfl) (by kernel_rfl) (by kernel_rfl) (fun c a w h => hP c a _ _ w h) hS (fun w1 hS => does_field SmA_fld_24_1 rfl rfl) ?_
  intro a hA
  refine any_take hA 2 rfl rfl rfl rfl (by kernel_rfl) (by kernel_rfl) (by kernel_rfl) (fun c a w h => hP c a _ _ w h) hS (fun w1 hS => does_load1 hS SmA_is1_22 rfl 0 rfl rfl) ?_
  intro a hA
  refine any_take hA 3 rfl rfl rfl rfl (by kernel_rfl) (by kernel_rfl) (by kernel_rfl) (fun c a w h => hP c a _ _ w h) hS (fun w1 hS => does_move rfl) ?_
  intro a hA
  refine any_one (by kernel_rfl) (op_call hA 4 rfl rfl rfl rfl (enters_func  rfl rfl (fun w => by kernel_rfl)) (of_any 9223372036854775807 _ (by decide)) ?_)
  rintro _ w23 ⟨ro19, rc20, rfl, ho21, hb22⟩
  replace hS := hS.call hb22
  replace hS := hS.addR ho21.rd
  refine ⟨_, rfl, (hS.partD (.refl _) 1 rfl (.refl _)), ?_⟩
  intro a hA
  refine any_one (by kernel_rfl) (op_call hA 5 rfl rfl rfl rfl (enters_func  rfl rfl (fun w => by kernel_rfl)) ((cmp_words hx hg ▸ cmp_any _ _ (hS.rd 4 rfl) (hS.rd 0 rfl) (by omega) (by omega))) ?_)
  rintro _ w25 ⟨rfl, hb24⟩
  replace hS := hS.call hb24
  refine ⟨_, rfl, (hS.partD (.refl _) 1 rfl (.refl _)), ?_⟩
  intro a hA
  refine any_take (v := .bool false) hA 6 rfl rfl rfl rfl (by kernel_rfl) (by kernel_rfl) (by kernel_rfl) (fun c a w h => hP c a _ _ w h) (hS.partD (.refl _) 1 rfl (.refl _)) (fun w1 hS => does_bin rfl rfl (fun w => (bin_gtr w).trans (by rw [show (decide (0 < cmpN x 9223372036854775807)) = false from (decide_eq_false (by unfold cmpN; split <;> (try split) <;> omega))]))) ?_
  intro a hA
  refine any_end (by kernel_rfl) ?_
  refine hK18 _ _ ?_
  refine wp_cond_false (hA.ev rfl) ?_
  refine wp_skip ?_
  refine hK17 _ _ ?_
  refine wp_seq_k (fun K26 hK26 => ?_)
  refine wp_region_lit ?_
  refine seq_do (v := .pointer (some ⟨g2, 0, none⟩)) hA rfl rfl rfl (does_field SmA_fld_26_0 rfl rfl) ?_
  intro a hA
  refine seq_do (v := .agg #[.bool false, .slice a1 ((words x).length) ac1, .slice a2 1 ac2]) hA rfl rfl rfl (does_loadS hS SmA_isS_24 rfl 0 rfl (cs := [.bool false, .slice a1 ((words x).length) ac1, .slice a2 1 ac2]) rfl rfl) ?_
  intro a hA
  refine seq_call hA rfl rfl rfl (enters_func  rfl rfl (fun w => by kernel_rfl)) (intOf_any (b := false) (x := x) (hS.rd 4 rfl) (by simp; omega)) ?_
  rintro _ w28 ⟨rfl, hb27⟩
  replace hS := hS.call hb27
  refine ⟨_, rfl, ?_⟩
  intro a hA
  refine seq_do hA rfl rfl rfl (does_assign rfl) ?_
  intro a hA
  refine seq_do hA rfl rfl rfl (does_assign rfl) ?_
  intro a hA
  refine seq_end ?_
  refine hK26 _ _ ?_
  refine wp_ret ?_
  refine hret _ _ ?_
  refine ends (v := .tuple #[.int .i64 (sgn false x), .int .i64 0]) hA rfl (.cons (res_tmp rfl) (.cons (res_tmp rfl) .nil)) rfl ?_
  exact ⟨rfl, hS.bel⟩
theorem smalltL_any {w : World} {x : Nat} {a1 a2 a3 a4 : Option Addr} {ac1 ac2 ac3 ac4 : Nat} (ha : Nm w (Q6.whole true x) a1 ac1 a2 ac2 a3 ac3 a4 ac4) (hl : LenQ (Q6.whole true x)) (hs : soundQ (Q6.whole true x) = true) (hx : (words x).length ≤ 512) (hg : (words 9223372036854775808).length ≤ 512) (hc : ¬ x ≤ 9223372036854775808) : Calls Tryz.prog 14 #[numV (Q6.whole true x) a1 ac1 a2 ac2 a3 ac3 a4 ac4] w fun e w' => e = .returned (.tuple #[.int .i64 0, .int .i64 4]) ∧ Below w.heap.size w w' := by
  have hS : St w w [] [(a4, [1]), (a3, []), (a2, [1]), (a1, words x)] [] := ((((St.start w).addR ha.s1.rd).addR ha.s2.rd).addR ha.s3.rd).addR ha.s4.rd
  refine walk_of (l := [(0, .agg #[.bool true, .slice a1 ((words x).length) ac1, .slice a2 1 ac2, .bool false, .slice a3 0 ac3, .slice a4 1 ac4])]) Tryz.func14 rfl Tryz.ntmps14 rfl rfl ?_
  intro Q hret hnorm hP a hA
  refine wp_seq_k (fun K1 hK1 => ?_)
  refine wp_region_lit ?_
  refine seq_new (vs := [.bool true, .slice a1 ((words x).length) ac1, .slice a2 1 ac2, .bool false, .slice a3 0 ac3, .slice a4 1 ac4]) (t := 26) hA hS rfl rfl rfl (fun g => .pointer (some ⟨g, 0, none⟩)) (does_box rfl rfl) rfl ?_
  intro g2 w3 hS a hA
  refine seq_do hA rfl rfl rfl (does_assign rfl) ?_
  intro a hA
  refine seq_do hA rfl rfl rfl (does_assign rfl) ?_
  intro a hA
  refine seq_end ?_
  refine hK1 _ _ ?_
  refine wp_seq_k (fun K4 hK4 => ?_)
  refine wp_seq_k (fun K5 hK5 => ?_)
  refine wp_region_lit ?_
  refine seq_do (v := .agg #[.bool true, .slice a1 ((words x).length) ac1, .slice a2 1 ac2, .bool false, .slice a3 0 ac3, .slice a4 1 ac4]) hA rfl rfl rfl (does_loadS hS SmA_isS_26 rfl 0 rfl (cs := [.bool true, .slice a1 ((words x).length) ac1, .slice a2 1 ac2, .bool false, .slice a3 0 ac3, .slice a4 1 ac4]) rfl rfl) ?_
  intro a hA
  refine seq_call hA rfl rfl rfl (enters_func  rfl rfl (fun w => by kernel_rfl)) (soundQ_any (show Nm _ _ a1 ac1 a2 ac2 a3 ac3 a4 ac4 from ⟨⟨(hS.rd 3 rfl), ha.s1.nil, ha.s1.cap⟩, ⟨(hS.rd 2 rfl), ha.s2.nil, ha.s2.cap⟩, ⟨(hS.rd 1 rfl), ha.s3.nil, ha.s3.cap⟩, ⟨(hS.rd 0 rfl), ha.s4.nil, ha.s4.cap⟩⟩) hl hs) ?_
  rintro _ w7 ⟨rfl, hb6⟩
  replace hS := hS.call hb6
  refine ⟨_, rfl, ?_⟩
  intro a hA
  refine seq_do (v := .bool false) hA rfl rfl rfl (does_un rfl un_not) ?_
  intro a hA
  refine seq_end ?_
  refine hK5 _ _ ?_
  refine wp_cond_false (hA.ev rfl) ?_
  refine wp_skip ?_
  refine hK4 _ _ ?_
  refine wp_seq_k (fun K8 hK8 => ?_)
  refine wp_seq_k (fun K9 hK9 => ?_)
  refine wp_region_lit ?_
  refine seq_do (v := .agg #[.bool true, .slice a1 ((words x).length) ac1, .slice a2 1 ac2, .bool false, .slice a3 0 ac3, .slice a4 1 ac4]) hA rfl rfl rfl (does_loadS hS SmA_isS_26 rfl 0 rfl (cs := [.bool true, .slice a1 ((words x).length) ac1, .slice a2 1 ac2, .bool false, .slice a3 0 ac3, .slice a4 1 ac4]) rfl rfl) ?_
  intro a hA
  refine seq_call hA rfl rfl rfl (enters_func  rfl rfl (fun w => by kernel_rfl)) (isRealQ_any (q := Q6.whole true x) hl rfl) ?_
  rintro _ w11 ⟨rfl, hb10⟩
  replace hS := hS.call hb10
  refine ⟨_, rfl, ?_⟩
  intro a hA
  refine seq_do (v := .bool false) hA rfl rfl rfl (does_un rfl un_not) ?_
  intro a hA
  refine seq_do hA rfl rfl rfl (does_move rfl) ?_
  intro a hA
  refine seq_do (v := .pointer (some ⟨g2, 0, none⟩)) hA rfl rfl rfl (does_field SmA_fld_26_0 rfl rfl) ?_
  intro a hA
  refine seq_do (v := .pointer (some ⟨g2, 2, none⟩)) hA rfl rfl rfl (does_field SmA_fld_24_2 rfl rfl) ?_
  intro a hA
  refine seq_do hA rfl rfl rfl (does_load1 hS SmA_is1_22 rfl 0 rfl rfl) ?_
  intro a hA
  refine seq_call hA rfl rfl rfl (enters_func  rfl rfl (fun w => by kernel_rfl)) (isOneQ_any _ (hS.rd 2 rfl) (by decide) rfl) ?_
  rintro _ w13 ⟨rfl, hb12⟩
  replace hb12 := below_eq hb12
  replace hS := hS.call hb12
  refine ⟨_, rfl, ?_⟩
  intro a hA
  refine seq_do (v := .bool false) hA rfl rfl rfl (does_un rfl un_not) ?_
  intro a hA
  refine seq_do (v := .bool false) hA rfl rfl rfl (does_pick rfl rfl rfl rfl) ?_
  intro a hA
  refine seq_end ?_
  refine hK9 _ _ ?_
  refine wp_cond_false (hA.ev rfl) ?_
  refine wp_skip ?_
  refine hK8 _ _ ?_
  refine wp_seq_k (fun K14 hK14 => ?_)
  refine wp_region_lit ?_
  refine seq_do hA rfl rfl rfl (does_assign rfl) ?_
  intro a hA
  refine seq_end ?_
  refine hK14 _ _ ?_
  refine wp_seq_k (fun K15 hK15 => ?_)
  refine wp_seq_k (fun K16 hK16 => ?_)
  refine wp_region_lit ?_
  refine seq_do (v := .pointer (some ⟨g2, 0, none⟩)) hA rfl rfl rfl (does_field SmA_fld_26_0 rfl rfl) ?_
  intro a hA
  refine seq_do (v := .pointer (some ⟨g2, 0, none⟩)) hA rfl rfl rfl (does_field SmA_fld_24_0 rfl rfl) ?_
  intro a hA
  refine seq_do hA rfl rfl rfl (does_load1 hS SmA_is1_4 rfl 0 rfl rfl) ?_
  intro a hA
  refine seq_end ?_
  refine hK16 _ _ ?_
  refine wp_cond_true (hA.ev rfl) ?_
  refine wp_region_lit ?_
  refine seq_do hA rfl rfl rfl (does_move rfl) ?_
  intro a hA
  refine seq_do (v := .int .u64 9223372036854775808) hA rfl rfl rfl (does_bin rfl rfl (ar_add (by decide))) ?_
  intro a hA
  refine seq_do hA rfl rfl rfl (does_assign rfl) ?_
  intro a hA
  refine seq_end ?_
  refine hK15 _ _ ?_
  refine wp_seq_k (fun K17 hK17 => ?_)
  refine wp_seq_k (fun K18 hK18 => ?_)
  refine wp_draw (S := fun w1 => St w w1 [(g2, [.bool true, .slice a1 ((words x).length) ac1, .slice a2 1 ac2, .bool false, .slice a3 0 ac3, .slice a4 1 ac4])] [(a4, [1]), (a3, []), (a2, [1]), (a1, words x)] []) (by kernel_rfl) ?_
  replace hS := hS.drew
  refine any_take (v := .pointer (some ⟨g2, 0, none⟩)) hA 0 rfl rfl rfl rfl (by kernel_rfl) (by kernel_rfl) (by kernel_rfl) (fun c a w h => hP c a _ _ w h) hS (fun w1 hS => does_field SmA_fld_26_0 rfl rfl) ?_
  intro a hA
  refine any_take (v := .pointer (some ⟨g2, 1, none⟩)) hA 1 rfl rfl rfl rfl (by kernel_rfl) (by kernel_rfl) (by kernel_rfl) (fun c a w h => hP c a _ _ w h) hS (fun w1 hS => does_field SmA_fld_24_1 rfl rfl) ?_
  intro a hA
  refine any_take hA 2 rfl rfl rfl rfl (by kernel_rfl) (by kernel_rfl) (by kernel_rfl) (fun c a w h => hP c a _ _ w h) hS (fun w1 hS => does_load1 hS SmA_is1_22 rfl 0 rfl rfl) ?_
  intro a hA
  refine any_take hA 3 rfl rfl rfl rfl (by kernel_rfl) (by kernel_rfl) (by kernel_rfl) (fun c a w h => hP c a _ _ w h) hS (fun w1 hS => does_move rfl) ?_
  intro a hA
  refine any_one (by kernel_rfl) (op_call hA 4 rfl rfl rfl rfl (enters_func  rfl rfl (fun w => by kernel_rfl)) (of_any 9223372036854775808 _ (by decide)) ?_)
  rintro _ w23 ⟨ro19, rc20, rfl, ho21, hb22⟩
  replace hS := hS.call hb22
  replace hS := hS.addR ho21.rd
  refine ⟨_, rfl, (hS.partD (.refl _) 1 rfl (.refl _)), ?_⟩
  intro a hA
  refine any_one (by kernel_rfl) (op_call hA 5 rfl rfl rfl rfl (enters_func  rfl rfl (fun w => by kernel_rfl)) ((cmp_words hx hg ▸ cmp_any _ _ (hS.rd 4 rfl) (hS.rd 0 rfl) (by omega) (by omega))) ?_)
  rintro _ w25 ⟨rfl, hb24⟩
  replace hS := hS.call hb24
  refine ⟨_, rfl, (hS.partD (.refl _) 1 rfl (.refl _)), ?_⟩
  intro a hA
  refine any_take (v := .bool true) hA 6 rfl rfl rfl rfl (by kernel_rfl) (by kernel_rfl) (by kernel_rfl) (fun c a w h => hP c a _ _ w h) (hS.partD (.refl _) 1 rfl (.refl _)) (fun w1 hS => does_bin rfl rfl (fun w => (bin_gtr w).trans (by rw [show (decide (0 < cmpN x 9223372036854775808)) = true from (decide_eq_true (by unfold cmpN; split <;> (try split) <;> omega))]))) ?_
  intro a hA
  refine any_end (by kernel_rfl) ?_
  refine hK18 _ _ ?_
  refine wp_cond_true (hA.ev rfl) ?_
  refine wp_seq_k (fun K26 hK26 => ?_)
  refine wp_region_lit ?_
  refine seq_do hA rfl rfl rfl (does_assign rfl) ?_
  intro a hA
  refine seq_do hA rfl rfl rfl (does_assign rfl) ?_
  intro a hA
  refine seq_end ?_
  refine hK26 _ _ ?_
  refine wp_ret ?_
  refine hret _ _ ?_
  refine ends (v := .tuple #[.int .i64 0, .int .i64 4]) hA rfl (.cons (res_tmp rfl) (.cons (res_tmp rfl) .nil)) rfl ?_
  exact ⟨rfl, hS.bel⟩
theorem smalltS_any {w : World} {x : Nat} {a1 a2 a3 a4 : Option Addr} {ac1 ac2 ac3 ac4 : Nat} (ha : Nm w (Q6.whole true x) a1 ac1 a2 ac2 a3 ac3 a4 ac4) (hl : LenQ (Q6.whole true x)) (hs : soundQ (Q6.whole true x) = true) (hx : (words x).length ≤ 512) (hg : (words 9223372036854775808).length ≤ 512) (hc : x ≤ 9223372036854775808) : Calls Tryz.prog 14 #[numV (Q6.whole true x) a1 ac1 a2 ac2 a3 ac3 a4 ac4] w fun e w' => e = .returned (.tuple #[.int .i64 (sgn true x), .int .i64 0]) ∧ Below w.heap.size w w' := by
  have hS : St w w [] [(a4, [1]), (a3, []), (a2, [1]), (a1, words x)] [] := ((((St.start w).addR ha.s1.rd).addR ha.s2.rd).addR ha.s3.rd).addR ha.s4.rd
  refine walk_of (l := [(0, .agg #[.bool true, .slice a1 ((words x).length) ac1, .slice a2 1 ac2, .bool false, .slice a3 0 ac3, .slice a4 1 ac4])]) Tryz.func14 rfl Tryz.ntmps14 rfl rfl ?_
  intro Q hret hnorm hP a hA
  refine wp_seq_k (fun K1 hK1 => ?_)
  refine wp_region_lit ?_
  refine seq_new (vs := [.bool true, .slice a1 ((words x).length) ac1, .slice a2 1 ac2, .bool false, .slice a3 0 ac3, .slice a4 1 ac4]) (t := 26) hA hS rfl rfl rfl (fun g => .pointer (some ⟨g, 0, none⟩)) (does_box rfl rfl) rfl ?_
  intro g2 w3 hS a hA
  refine seq_do hA rfl rfl rfl (does_assign rfl) ?_
  intro a hA
  refine seq_do hA rfl rfl rfl (does_assign rfl) ?_
  intro a hA
  refine seq_end ?_
  refine hK1 _ _ ?_
  refine wp_seq_k (fun K4 hK4 => ?_)
  refine wp_seq_k (fun K5 hK5 => ?_)
  refine wp_region_lit ?_
  refine seq_do (v := .agg #[.bool true, .slice a1 ((words x).length) ac1, .slice a2 1 ac2, .bool false, .slice a3 0 ac3, .slice a4 1 ac4]) hA rfl rfl rfl (does_loadS hS SmA_isS_26 rfl 0 rfl (cs := [.bool true, .slice a1 ((words x).length) ac1, .slice a2 1 ac2, .bool false, .slice a3 0 ac3, .slice a4 1 ac4]) rfl rfl) ?_
  intro a hA
  refine seq_call hA rfl rfl rfl (enters_func  rfl rfl (fun w => by kernel_rfl)) (soundQ_any (show Nm _ _ a1 ac1 a2 ac2 a3 ac3 a4 ac4 from ⟨⟨(hS.rd 3 rfl), ha.s1.nil, ha.s1.cap⟩, ⟨(hS.rd 2 rfl), ha.s2.nil, ha.s2.cap⟩, ⟨(hS.rd 1 rfl), ha.s3.nil, ha.s3.cap⟩, ⟨(hS.rd 0 rfl), ha.s4.nil, ha.s4.cap⟩⟩) hl hs) ?_
  rintro _ w7 ⟨rfl, hb6⟩
  replace hS := hS.call hb6
  refine ⟨_, rfl, ?_⟩
  intro a hA
  refine seq_do (v := .bool false) hA rfl rfl rfl (does_un rfl un_not) ?_
  intro a hA
  refine seq_end ?_
  refine hK5 _ _ ?_
  refine wp_cond_false (hA.ev rfl) ?_
  refine wp_skip ?_
  refine hK4 _ _ ?_
  refine wp_seq_k (fun K8 hK8 => ?_)
  refine wp_seq_k (fun K9 hK9 => ?_)
  refine wp_region_lit ?_
  refine seq_do (v := .agg #[.bool true, .slice a1 ((words x).length) ac1, .slice a2 1 ac2, .bool false, .slice a3 0 ac3, .slice a4 1 ac4]) hA rfl rfl rfl (does_loadS hS SmA_isS_26 rfl 0 rfl (cs := [.bool true, .slice a1 ((words x).length) ac1, .slice a2 1 ac2, .bool false, .slice a3 0 ac3, .slice a4 1 ac4]) rfl rfl) ?_
  intro a hA
  refine seq_call hA rfl rfl rfl (enters_func  rfl rfl (fun w => by kernel_rfl)) (isRealQ_any (q := Q6.whole true x) hl rfl) ?_
  rintro _ w11 ⟨rfl, hb10⟩
  replace hS := hS.call hb10
  refine ⟨_, rfl, ?_⟩
  intro a hA
  refine seq_do (v := .bool false) hA rfl rfl rfl (does_un rfl un_not) ?_
  intro a hA
  refine seq_do hA rfl rfl rfl (does_move rfl) ?_
  intro a hA
  refine seq_do (v := .pointer (some ⟨g2, 0, none⟩)) hA rfl rfl rfl (does_field SmA_fld_26_0 rfl rfl) ?_
  intro a hA
  refine seq_do (v := .pointer (some ⟨g2, 2, none⟩)) hA rfl rfl rfl (does_field SmA_fld_24_2 rfl rfl) ?_
  intro a hA
  refine seq_do hA rfl rfl rfl (does_load1 hS SmA_is1_22 rfl 0 rfl rfl) ?_
  intro a hA
  refine seq_call hA rfl rfl rfl (enters_func  rfl rfl (fun w => by kernel_rfl)) (isOneQ_any _ (hS.rd 2 rfl) (by decide) rfl) ?_
  rintro _ w13 ⟨rfl, hb12⟩
  replace hb12 := below_eq hb12
  replace hS := hS.call hb12
  refine ⟨_, rfl, ?_⟩
  intro a hA
  refine seq_do (v := .bool false) hA rfl rfl rfl (does_un rfl un_not) ?_
  intro a hA
  refine seq_do (v := .bool false) hA rfl rfl rfl (does_pick rfl rfl rfl rfl) ?_
  intro a hA
  refine seq_end ?_
  refine hK9 _ _ ?_
  refine wp_cond_false (hA.ev rfl) ?_
  refine wp_skip ?_
  refine hK8 _ _ ?_
  refine wp_seq_k (fun K14 hK14 => ?_)
  refine wp_region_lit ?_
  refine seq_do hA rfl rfl rfl (does_assign rfl) ?_
  intro a hA
  refine seq_end ?_
  refine hK14 _ _ ?_
  refine wp_seq_k (fun K15 hK15 => ?_)
  refine wp_seq_k (fun K16 hK16 => ?_)
  refine wp_region_lit ?_
  refine seq_do (v := .pointer (some ⟨g2, 0, none⟩)) hA rfl rfl rfl (does_field SmA_fld_26_0 rfl rfl) ?_
  intro a hA
  refine seq_do (v := .pointer (some ⟨g2, 0, none⟩)) hA rfl rfl rfl (does_field SmA_fld_24_0 rfl rfl) ?_
  intro a hA
  refine seq_do hA rfl rfl rfl (does_load1 hS SmA_is1_4 rfl 0 rfl rfl) ?_
  intro a hA
  refine seq_end ?_
  refine hK16 _ _ ?_
  refine wp_cond_true (hA.ev rfl) ?_
  refine wp_region_lit ?_
  refine seq_do hA rfl rfl rfl (does_move rfl) ?_
  intro a hA
  refine seq_do (v := .int .u64 9223372036854775808) hA rfl rfl rfl (does_bin rfl rfl (ar_add (by decide))) ?_
  intro a hA
  refine seq_do hA rfl rfl rfl (does_assign rfl) ?_
  intro a hA
  refine seq_end ?_
  refine hK15 _ _ ?_
  refine wp_seq_k (fun K17 hK17 => ?_)
  refine wp_seq_k (fun K18 hK18 => ?_)
  refine wp_draw (S := fun w1 => St w w1 [(g2, [.bool true, .slice a1 ((words x).length) ac1, .slice a2 1 ac2, .bool false, .slice a3 0 ac3, .slice a4 1 ac4])] [(a4, [1]), (a3, []), (a2, [1]), (a1, words x)] []) (by kernel_rfl) ?_
  replace hS := hS.drew
  refine any_take (v := .pointer (some ⟨g2, 0, none⟩)) hA 0 rfl rfl rfl rfl (by kernel_rfl) (by kernel_rfl) (by kernel_rfl) (fun c a w h => hP c a _ _ w h) hS (fun w1 hS => does_field SmA_fld_26_0 rfl rfl) ?_
  intro a hA
  refine any_take (v := .pointer (some ⟨g2, 1, none⟩)) hA 1 rfl rfl rfl rfl (by kernel_rfl) (by kernel_rfl) (by kernel_rfl) (fun c a w h => hP c a _ _ w h) hS (fun w1 hS => does_field SmA_fld_24_1 rfl rfl) ?_
  intro a hA
  refine any_take hA 2 rfl rfl rfl rfl (by kernel_rfl) (by kernel_rfl) (by kernel_rfl) (fun c a w h => hP c a _ _ w h) hS (fun w1 hS => does_load1 hS SmA_is1_22 rfl 0 rfl rfl) ?_
  intro a hA
  refine any_take hA 3 rfl rfl rfl rfl (by kernel_rfl) (by kernel_rfl) (by kernel_rfl) (fun c a w h => hP c a _ _ w h) hS (fun w1 hS => does_move rfl) ?_
  intro a hA
  refine any_one (by kernel_rfl) (op_call hA 4 rfl rfl rfl rfl (enters_func  rfl rfl (fun w => by kernel_rfl)) (of_any 9223372036854775808 _ (by decide)) ?_)
  rintro _ w23 ⟨ro19, rc20, rfl, ho21, hb22⟩
  replace hS := hS.call hb22
  replace hS := hS.addR ho21.rd
  refine ⟨_, rfl, (hS.partD (.refl _) 1 rfl (.refl _)), ?_⟩
  intro a hA
  refine any_one (by kernel_rfl) (op_call hA 5 rfl rfl rfl rfl (enters_func  rfl rfl (fun w => by kernel_rfl)) ((cmp_words hx hg ▸ cmp_any _ _ (hS.rd 4 rfl) (hS.rd 0 rfl) (by omega) (by omega))) ?_)
  rintro _ w25 ⟨rfl, hb24⟩
  replace hS := hS.call hb24
  refine ⟨_, rfl, (hS.partD (.refl _) 1 rfl (.refl _)), ?_⟩
  intro a hA
  refine any_take (v := .bool false) hA 6 rfl rfl rfl rfl (by kernel_rfl) (by kernel_rfl) (by kernel_rfl) (fun c a w h => hP c a _ _ w h) (hS.partD (.refl _) 1 rfl (.refl _)) (fun w1 hS => does_bin rfl rfl (fun w => (bin_gtr w).trans (by rw [show (decide (0 < cmpN x 9223372036854775808)) = false from (decide_eq_false (by unfold cmpN; split <;> (try split) <;> omega))]))) ?_
  intro a hA
  refine any_end (by kernel_rfl) ?_
  refine hK18 _ _ ?_
  refine wp_cond_false (hA.ev rfl) ?_
  refine wp_skip ?_
  refine hK17 _ _ ?_
  refine wp_seq_k (fun K26 hK26 => ?_)
  refine wp_region_lit ?_
  refine seq_do (v := .pointer (some ⟨g2, 0, none⟩)) hA rfl rfl rfl (does_field SmA_fld_26_0 rfl rfl) ?_
  intro a hA
  refine seq_do (v := .agg #[.bool true, .slice a1 ((words x).length) ac1, .slice a2 1 ac2]) hA rfl rfl rfl (does_loadS hS SmA_isS_24 rfl 0 rfl (cs := [.bool true, .slice a1 ((words x).length) ac1, .slice a2 1 ac2]) rfl rfl) ?_
  intro a hA
  refine seq_call hA rfl rfl rfl (enters_func  rfl rfl (fun w => by kernel_rfl)) (intOf_any (b := true) (x := x) (hS.rd 4 rfl) (by simp; omega)) ?_
  rintro _ w28 ⟨rfl, hb27⟩
  replace hS := hS.call hb27
  refine ⟨_, rfl, ?_⟩
  intro a hA
  refine seq_do hA rfl rfl rfl (does_assign rfl) ?_
  intro a hA
  refine seq_do hA rfl rfl rfl (does_assign rfl) ?_
  intro a hA
  refine seq_end ?_
  refine hK26 _ _ ?_
  refine wp_ret ?_
  refine hret _ _ ?_
  refine ends (v := .tuple #[.int .i64 (sgn true x), .int .i64 0]) hA rfl (.cons (res_tmp rfl) (.cons (res_tmp rfl) .nil)) rfl ?_
  exact ⟨rfl, hS.bel⟩
theorem gr_len {n : Nat} (h : n < 18446744073709551616) : (words n).length ≤ 512 := Nat.le_trans (words_length_le (k := 2) (by rw [show pw 2 = 18446744073709551616 from rfl]; exact h)) (by decide)
theorem smallQ_any {w : World} {q : Q6} {a1 a2 a3 a4 : Option Addr} {ac1 ac2 ac3 ac4 : Nat} (ha : Nm w q a1 ac1 a2 ac2 a3 ac3 a4 ac4) (hl : LenQ q) : Calls Tryz.prog 14 #[numV q a1 ac1 a2 ac2 a3 ac3 a4 ac4] w fun e w' => e = .returned (.tuple #[.int .i64 (smallQ q).1, .int .i64 (smallQ q).2]) ∧ Below w.heap.size w w' := by
  cases h1 : soundQ q with
  | false =>
    rw [smallQ_bad h1]
    exact smallE0_any ha hl h1
  | true =>
    cases hw : wholeQ q with
    | false =>
      rw [smallQ_type h1 hw]
      cases h2 : decide (q.t2.length = 0) with
      | false => exact smallE1_any ha hl h1 h2
      | true =>
        cases h3 : decide (q.q1 = [1]) with
        | false => exact smallE2_any ha hl h1 h2 h3
        | true =>
          unfold wholeQ at hw
          rw [h1, h2, h3] at hw
          cases hw
    | true =>
      obtain ⟨x, e, hx, hb⟩ := whole_form ha.s1.rd.dig ha.s4.rd.dig hw
      generalize q.b1 = b at e hb
      subst e
      rw [smallQ_whole hw]
      unfold smallS
      cases b
      · by_cases hc : x ≤ 9223372036854775807
        · rw [if_pos (by simp; omega)]
          exact smallfS_any ha hl h1 hx (gr_len (by decide)) hc
        · rw [if_neg (by simp; omega)]
          exact smallfL_any ha hl h1 hx (gr_len (by decide)) hc
      · by_cases hc : x ≤ 9223372036854775808
        · rw [if_pos (by simp; omega)]
          exact smalltS_any ha hl h1 hx (gr_len (by decide)) hc
        · rw [if_neg (by simp; omega)]
          exact smalltL_any ha hl h1 hx (gr_len (by decide)) hc
end Go.Proofs.YthlkbnhbmfmchaaGreat
namespace Go.Proofs.YthlkbnhbmfmchaaGreat
open Go.RowKit
set_option linter.unusedVariables false
set_option linter.unusedSimpArgs false
set_option maxRecDepth 100000
theorem SmB_is1_22 : Is1 Tryz.prog 22 := ⟨⟨_, Tryz.underlying22, rfl⟩, by kernel_rfl⟩
theorem SmB_is1_4 : Is1 Tryz.prog 4 := ⟨⟨_, Tryz.underlying4, rfl⟩, by kernel_rfl⟩
theorem SmB_is1_66 : Is1 Tryz.prog 66 := ⟨⟨_, Tryz.underlying66, rfl⟩, by kernel_rfl⟩
theorem SmB_fld_24_0 : FieldAt Tryz.prog 24 0 0 := ⟨_, _, Tryz.underlying24, rfl, rfl, by kernel_rfl⟩
theorem SmB_fld_24_1 : FieldAt Tryz.prog 24 1 1 := ⟨_, _, Tryz.underlying24, rfl, rfl, by kernel_rfl⟩
theorem SmB_fld_26_0 : FieldAt Tryz.prog 26 0 0 := ⟨_, _, Tryz.underlying26, rfl, rfl, by kernel_rfl⟩
theorem SmB_isS_26 : IsS Tryz.prog 26 6 := ⟨⟨_, Tryz.underlying26⟩, by kernel_rfl⟩
theorem rsmallE0_any {w : World} {q : Q6} {a1 a2 a3 a4 : Option Addr} {ac1 ac2 ac3 ac4 : Nat} (ha : Nm w q a1 ac1 a2 ac2 a3 ac3 a4 ac4) (hl : LenQ q) (h1 : soundQ q = false) : Calls Tryz.prog 15 #[numV q a1 ac1 a2 ac2 a3 ac3 a4 ac4] w fun e w' => e = .returned (.tuple #[.int .i64 0, .int .i64 2]) ∧ Below w.heap.size w w' := by
  have hS : St w w [] [(a4, q.q2), (a3, q.t2), (a2, q.q1), (a1, q.t1)] [] := ((((St.start w).addR ha.s1.rd).addR ha.s2.rd).addR ha.s3.rd).addR ha.s4.rd
  refine walk_of (l := [(0, .agg #[.bool q.b1, .slice a1 q.t1.length ac1, .slice a2 q.q1.length ac2, .bool q.b2, .slice a3 q.t2.length ac3, .slice a4 q.q2.length ac4])]) Tryz.func15 rfl Tryz.ntmps15 rfl rfl ?_
  intro Q hret hnorm hP a hA
  refine wp_seq_k (fun K1 hK1 => ?_)
  refine wp_region_lit ?_
  refine seq_new (vs := [.bool q.b1, .slice a1 q.t1.length ac1, .slice a2 q.q1.length ac2, .bool q.b2, .slice a3 q.t2.length ac3, .slice a4 q.q2.length ac4]) (t := 26) hA hS rfl rfl rfl (fun g => .pointer (some ⟨g, 0, none⟩)) (does_box rfl rfl) rfl ?_
  intro g2 w3 hS a hA
  refine seq_do hA rfl rfl rfl (does_assign rfl) ?_
  intro a hA
  refine seq_do hA rfl rfl rfl (does_assign rfl) ?_
  intro a hA
  refine seq_end ?_
  refine hK1 _ _ ?_
  refine wp_seq_k (fun K4 hK4 => ?_)
  refine wp_seq_k (fun K5 hK5 => ?_)
  refine wp_region_lit ?_
  refine seq_do (v := .agg #[.bool q.b1, .slice a1 q.t1.length ac1, .slice a2 q.q1.length ac2, .bool q.b2, .slice a3 q.t2.length ac3, .slice a4 q.q2.length ac4]) hA rfl rfl rfl (does_loadS hS SmB_isS_26 rfl 0 rfl (cs := [.bool q.b1, .slice a1 q.t1.length ac1, .slice a2 q.q1.length ac2, .bool q.b2, .slice a3 q.t2.length ac3, .slice a4 q.q2.length ac4]) rfl rfl) ?_
  intro a hA
  refine seq_call hA rfl rfl rfl (enters_func  rfl rfl (fun w => by kernel_rfl)) (rsoundQ_any (show Nm _ _ a1 ac1 a2 ac2 a3 ac3 a4 ac4 from ⟨⟨(hS.rd 3 rfl), ha.s1.nil, ha.s1.cap⟩, ⟨(hS.rd 2 rfl), ha.s2.nil, ha.s2.cap⟩, ⟨(hS.rd 1 rfl), ha.s3.nil, ha.s3.cap⟩, ⟨(hS.rd 0 rfl), ha.s4.nil, ha.s4.cap⟩⟩) hl h1) ?_
  rintro _ w7 ⟨rfl, hb6⟩
  replace hS := hS.call hb6
  refine ⟨_, rfl, ?_⟩
  intro a hA
  refine seq_do (v := .bool true) hA rfl rfl rfl (does_un rfl un_not) ?_
  intro a hA
  refine seq_end ?_
  refine hK5 _ _ ?_
  refine wp_cond_true (hA.ev rfl) ?_
  refine wp_seq_k (fun K8 hK8 => ?_)
  refine wp_region_lit ?_
  refine seq_do hA rfl rfl rfl (does_assign rfl) ?_
  intro a hA
  refine seq_do hA rfl rfl rfl (does_assign rfl) ?_
  intro a hA
  refine seq_end ?_
  refine hK8 _ _ ?_
  refine wp_ret ?_
  refine hret _ _ ?_
  refine ends (v := .tuple #[.int .i64 0, .int .i64 2]) hA rfl (.cons (res_tmp rfl) (.cons (res_tmp rfl) .nil)) rfl ?_
  exact ⟨rfl, hS.bel⟩
theorem rsmallE1_any {w : World} {q : Q6} {a1 a2 a3 a4 : Option Addr} {ac1 ac2 ac3 ac4 : Nat} (ha : Nm w q a1 ac1 a2 ac2 a3 ac3 a4 ac4) (hl : LenQ q) (h1 : soundQ q = true) (h2 : wholeQ q = false) : Calls Tryz.prog 15 #[numV q a1 ac1 a2 ac2 a3 ac3 a4 ac4] w fun e w' => e = .returned (.tuple #[.int .i64 0, .int .i64 10]) ∧ Below w.heap.size w w' := by
  have hS : St w w [] [(a4, q.q2), (a3, q.t2), (a2, q.q1), (a1, q.t1)] [] := ((((St.start w).addR ha.s1.rd).addR ha.s2.rd).addR ha.s3.rd).addR ha.s4.rd
  refine walk_of (l := [(0, .agg #[.bool q.b1, .slice a1 q.t1.length ac1, .slice a2 q.q1.length ac2, .bool q.b2, .slice a3 q.t2.length ac3, .slice a4 q.q2.length ac4])]) Tryz.func15 rfl Tryz.ntmps15 rfl rfl ?_
  intro Q hret hnorm hP a hA
  refine wp_seq_k (fun K1 hK1 => ?_)
  refine wp_region_lit ?_
  refine seq_new (vs := [.bool q.b1, .slice a1 q.t1.length ac1, .slice a2 q.q1.length ac2, .bool q.b2, .slice a3 q.t2.length ac3, .slice a4 q.q2.length ac4]) (t := 26) hA hS rfl rfl rfl (fun g => .pointer (some ⟨g, 0, none⟩)) (does_box rfl rfl) rfl ?_
  intro g2 w3 hS a hA
  refine seq_do hA rfl rfl rfl (does_assign rfl) ?_
  intro a hA
  refine seq_do hA rfl rfl rfl (does_assign rfl) ?_
  intro a hA
  refine seq_end ?_
  refine hK1 _ _ ?_
  refine wp_seq_k (fun K4 hK4 => ?_)
  refine wp_seq_k (fun K5 hK5 => ?_)
  refine wp_region_lit ?_
  refine seq_do (v := .agg #[.bool q.b1, .slice a1 q.t1.length ac1, .slice a2 q.q1.length ac2, .bool q.b2, .slice a3 q.t2.length ac3, .slice a4 q.q2.length ac4]) hA rfl rfl rfl (does_loadS hS SmB_isS_26 rfl 0 rfl (cs := [.bool q.b1, .slice a1 q.t1.length ac1, .slice a2 q.q1.length ac2, .bool q.b2, .slice a3 q.t2.length ac3, .slice a4 q.q2.length ac4]) rfl rfl) ?_
  intro a hA
  refine seq_call hA rfl rfl rfl (enters_func  rfl rfl (fun w => by kernel_rfl)) (rsoundQ_any (show Nm _ _ a1 ac1 a2 ac2 a3 ac3 a4 ac4 from ⟨⟨(hS.rd 3 rfl), ha.s1.nil, ha.s1.cap⟩, ⟨(hS.rd 2 rfl), ha.s2.nil, ha.s2.cap⟩, ⟨(hS.rd 1 rfl), ha.s3.nil, ha.s3.cap⟩, ⟨(hS.rd 0 rfl), ha.s4.nil, ha.s4.cap⟩⟩) hl h1) ?_
  rintro _ w7 ⟨rfl, hb6⟩
  replace hS := hS.call hb6
  refine ⟨_, rfl, ?_⟩
  intro a hA
  refine seq_do (v := .bool false) hA rfl rfl rfl (does_un rfl un_not) ?_
  intro a hA
  refine seq_end ?_
  refine hK5 _ _ ?_
  refine wp_cond_false (hA.ev rfl) ?_
  refine wp_skip ?_
  refine hK4 _ _ ?_
  refine wp_seq_k (fun K8 hK8 => ?_)
  refine wp_seq_k (fun K9 hK9 => ?_)
  refine wp_region_lit ?_
  refine seq_do (v := .agg #[.bool q.b1, .slice a1 q.t1.length ac1, .slice a2 q.q1.length ac2, .bool q.b2, .slice a3 q.t2.length ac3, .slice a4 q.q2.length ac4]) hA rfl rfl rfl (does_loadS hS SmB_isS_26 rfl 0 rfl (cs := [.bool q.b1, .slice a1 q.t1.length ac1, .slice a2 q.q1.length ac2, .bool q.b2, .slice a3 q.t2.length ac3, .slice a4 q.q2.length ac4]) rfl rfl) ?_
  intro a hA
  refine seq_call hA rfl rfl rfl (enters_func  rfl rfl (fun w => by kernel_rfl)) (rwholeQ_any (show Nm _ _ a1 ac1 a2 ac2 a3 ac3 a4 ac4 from ⟨⟨(hS.rd 3 rfl), ha.s1.nil, ha.s1.cap⟩, ⟨(hS.rd 2 rfl), ha.s2.nil, ha.s2.cap⟩, ⟨(hS.rd 1 rfl), ha.s3.nil, ha.s3.cap⟩, ⟨(hS.rd 0 rfl), ha.s4.nil, ha.s4.cap⟩⟩) hl h2) ?_
  rintro _ w11 ⟨rfl, hb10⟩
  replace hS := hS.call hb10
  refine ⟨_, rfl, ?_⟩
  intro a hA
  refine seq_do (v := .bool true) hA rfl rfl rfl (does_un rfl un_not) ?_
  intro a hA
  refine seq_end ?_
  refine hK9 _ _ ?_
  refine wp_cond_true (hA.ev rfl) ?_
  refine wp_seq_k (fun K12 hK12 => ?_)
  refine wp_region_lit ?_
  refine seq_do hA rfl rfl rfl (does_assign rfl) ?_
  intro a hA
  refine seq_do hA rfl rfl rfl (does_assign rfl) ?_
  intro a hA
  refine seq_end ?_
  refine hK12 _ _ ?_
  refine wp_ret ?_
  refine hret _ _ ?_
  refine ends (v := .tuple #[.int .i64 0, .int .i64 10]) hA rfl (.cons (res_tmp rfl) (.cons (res_tmp rfl) .nil)) rfl ?_
  exact ⟨rfl, hS.bel⟩
theorem rsmall0fS_any {w : World}  {a1 a2 a3 a4 : Option Addr} {ac1 ac2 ac3 ac4 : Nat} (ha : Nm w ((⟨false, [], [1], false, [], [1]⟩ : Q6)) a1 ac1 a2 ac2 a3 ac3 a4 ac4) (hs : soundQ (⟨false, [], [1], false, [], [1]⟩ : Q6) = true) (hw : wholeQ (⟨false, [], [1], false, [], [1]⟩ : Q6) = true) (hk : (words (0)) = []) (hz : bl (0) ≤ 64) (hc : 0 ≤ 9223372036854775807) : Calls Tryz.prog 15 #[numV (⟨false, [], [1], false, [], [1]⟩ : Q6) a1 ac1 a2 ac2 a3 ac3 a4 ac4] w fun e w' => e = .returned (.tuple #[.int .i64 (sgn false (0)), .int .i64 0]) ∧ Below w.heap.size w w' := by
  have hS : St w w [] [(a4, [1]), (a3, []), (a2, [1]), (a1, [])] [] := ((((St.start w).addR ha.s1.rd).addR ha.s2.rd).addR ha.s3.rd).addR ha.s4.rd
  refine walk_of (l := [(0, .agg #[.bool false, .slice a1 0 ac1, .slice a2 1 ac2, .bool false, .slice a3 0 ac3, .slice a4 1 ac4])]) Tryz.func15 rfl Tryz.ntmps15 rfl rfl ?_
  intro Q hret hnorm hP a hA
  refine wp_seq_k (fun K1 hK1 => ?_)
  refine wp_region_lit ?_
  refine seq_new (vs := [.bool false, .slice a1 0 ac1, .slice a2 1 ac2, .bool false, .slice a3 0 ac3, .slice a4 1 ac4]) (t := 26) hA hS rfl rfl rfl (fun g => .pointer (some ⟨g, 0, none⟩)) (does_box rfl rfl) rfl ?_
  intro g2 w3 hS a hA
  refine seq_do hA rfl rfl rfl (does_assign rfl) ?_
  intro a hA
  refine seq_do hA rfl rfl rfl (does_assign rfl) ?_
  intro a hA
  refine seq_end ?_
  refine hK1 _ _ ?_
  refine wp_seq_k (fun K4 hK4 => ?_)
  refine wp_seq_k (fun K5 hK5 => ?_)
  refine wp_region_lit ?_
  refine seq_do (v := .agg #[.bool false, .slice a1 0 ac1, .slice a2 1 ac2, .bool false, .slice a3 0 ac3, .slice a4 1 ac4]) hA rfl rfl rfl (does_loadS hS SmB_isS_26 rfl 0 rfl (cs := [.bool false, .slice a1 0 ac1, .slice a2 1 ac2, .bool false, .slice a3 0 ac3, .slice a4 1 ac4]) rfl rfl) ?_
  intro a hA
  refine seq_call hA rfl rfl rfl (enters_func  rfl rfl (fun w => by kernel_rfl)) (rsoundQ_any (show Nm _ _ a1 ac1 a2 ac2 a3 ac3 a4 ac4 from ⟨⟨(hS.rd 3 rfl), ha.s1.nil, ha.s1.cap⟩, ⟨(hS.rd 2 rfl), ha.s2.nil, ha.s2.cap⟩, ⟨(hS.rd 1 rfl), ha.s3.nil, ha.s3.cap⟩, ⟨(hS.rd 0 rfl), ha.s4.nil, ha.s4.cap⟩⟩) ⟨Nat.le_of_ble_eq_true rfl, Nat.le_of_ble_eq_true rfl, Nat.le_of_ble_eq_true rfl, Nat.le_of_ble_eq_true rfl⟩ hs) ?_
  rintro _ w7 ⟨rfl, hb6⟩
  replace hS := hS.call hb6
  refine ⟨_, rfl, ?_⟩
  intro a hA
  refine seq_do (v := .bool false) hA rfl rfl rfl (does_un rfl un_not) ?_
  intro a hA
  refine seq_end ?_
  refine hK5 _ _ ?_
  refine wp_cond_false (hA.ev rfl) ?_
  refine wp_skip ?_
  refine hK4 _ _ ?_
  refine wp_seq_k (fun K8 hK8 => ?_)
  refine wp_seq_k (fun K9 hK9 => ?_)
  refine wp_region_lit ?_
  refine seq_do (v := .agg #[.bool false, .slice a1 0 ac1, .slice a2 1 ac2, .bool false, .slice a3 0 ac3, .slice a4 1 ac4]) hA rfl rfl rfl (does_loadS hS SmB_isS_26 rfl 0 rfl (cs := [.bool false, .slice a1 0 ac1, .slice a2 1 ac2, .bool false, .slice a3 0 ac3, .slice a4 1 ac4]) rfl rfl) ?_
  intro a hA
  refine seq_call hA rfl rfl rfl (enters_func  rfl rfl (fun w => by kernel_rfl)) (rwholeQ_any (show Nm _ _ a1 ac1 a2 ac2 a3 ac3 a4 ac4 from ⟨⟨(hS.rd 3 rfl), ha.s1.nil, ha.s1.cap⟩, ⟨(hS.rd 2 rfl), ha.s2.nil, ha.s2.cap⟩, ⟨(hS.rd 1 rfl), ha.s3.nil, ha.s3.cap⟩, ⟨(hS.rd 0 rfl), ha.s4.nil, ha.s4.cap⟩⟩) ⟨Nat.le_of_ble_eq_true rfl, Nat.le_of_ble_eq_true rfl, Nat.le_of_ble_eq_true rfl, Nat.le_of_ble_eq_true rfl⟩ hw) ?_
  rintro _ w11 ⟨rfl, hb10⟩
  replace hS := hS.call hb10
  refine ⟨_, rfl, ?_⟩
  intro a hA
  refine seq_do (v := .bool false) hA rfl rfl rfl (does_un rfl un_not) ?_
  intro a hA
  refine seq_end ?_
  refine hK9 _ _ ?_
  refine wp_cond_false (hA.ev rfl) ?_
  refine wp_skip ?_
  refine hK8 _ _ ?_
  refine wp_seq_k (fun K12 hK12 => ?_)
  refine wp_seq_k (fun K13 hK13 => ?_)
  refine wp_region_lit ?_
  refine seq_do (v := .pointer (some ⟨g2, 0, none⟩)) hA rfl rfl rfl (does_field SmB_fld_26_0 rfl rfl) ?_
  intro a hA
  refine seq_do (v := .pointer (some ⟨g2, 1, none⟩)) hA rfl rfl rfl (does_field SmB_fld_24_1 rfl rfl) ?_
  intro a hA
  refine seq_do hA rfl rfl rfl (does_load1 hS SmB_is1_22 rfl 0 rfl rfl) ?_
  intro a hA
  refine seq_call hA rfl rfl rfl (enters_func  rfl rfl (fun w => by kernel_rfl)) ((show Calls Tryz.prog 53 #[.slice a1 0 ac1] _ (fun e w' => e = .returned (.int .i64 ((bl (0) : Nat) : Int)) ∧ w' = _) from (by have h9 := size_any (x := 0) ac1 (show Rd _ a1 (words (0)) from (by rw [hk]; exact (hS.rd 3 rfl))) (by rw [hk]; exact Nat.le_of_ble_eq_true rfl); rw [hk] at h9; exact h9))) ?_
  rintro _ w15 ⟨rfl, hb14⟩
  replace hb14 := below_eq hb14
  replace hS := hS.call hb14
  refine ⟨_, rfl, ?_⟩
  intro a hA
  refine seq_do (v := .bool false) hA rfl rfl rfl (does_bin rfl rfl (fun w => (bin_gtr w).trans (by rw [show (decide (64 < ((bl (0) : Nat) : Int))) = false from (decide_eq_false (by omega))]))) ?_
  intro a hA
  refine seq_end ?_
  refine hK13 _ _ ?_
  refine wp_cond_false (hA.ev rfl) ?_
  refine wp_skip ?_
  refine hK12 _ _ ?_
  refine wp_seq_k (fun K16 hK16 => ?_)
  refine wp_region_lit ?_
  refine seq_do hA rfl rfl rfl (does_assign rfl) ?_
  intro a hA
  refine seq_end ?_
  refine hK16 _ _ ?_
  refine wp_seq_k (fun K17 hK17 => ?_)
  refine wp_seq_k (fun K18 hK18 => ?_)
  refine wp_region_lit ?_
  refine seq_do (v := .pointer (some ⟨g2, 0, none⟩)) hA rfl rfl rfl (does_field SmB_fld_26_0 rfl rfl) ?_
  intro a hA
  refine seq_do (v := .pointer (some ⟨g2, 1, none⟩)) hA rfl rfl rfl (does_field SmB_fld_24_1 rfl rfl) ?_
  intro a hA
  refine seq_do hA rfl rfl rfl (does_load1 hS SmB_is1_22 rfl 0 rfl rfl) ?_
  intro a hA
  refine seq_do (v := .int .i64 0) hA rfl rfl rfl (does_len Tryz.underlying22 rfl) ?_
  intro a hA
  refine seq_do (v := .int .i64 (-1)) hA rfl rfl rfl (does_bin rfl rfl (fun w => by kernel_rfl)) ?_
  intro a hA
  refine seq_do hA rfl rfl rfl (does_assign rfl) ?_
  intro a hA
  refine seq_end ?_
  refine hK18 _ _ ?_
  refine wp_block ?_
  refine wp_loop_rounds 12 ?_
  refine rounds_k (fun K19 hK19 => ?_)
  refine wp_seq_k (fun K20 hK20 => ?_)
  refine wp_seq_k (fun K21 hK21 => ?_)
  refine wp_region_lit ?_
  refine seq_do hA rfl rfl rfl (does_move rfl) ?_
  intro a hA
  refine seq_do (v := .bool false) hA rfl rfl rfl (does_bin rfl rfl (fun w => by kernel_rfl)) ?_
  intro a hA
  refine seq_end ?_
  refine hK21 _ _ ?_
  refine wp_cond_false (hA.ev rfl) ?_
  refine wp_exit ?_
  refine hK17 _ _ ?_
  refine wp_seq_k (fun K22 hK22 => ?_)
  refine wp_seq_k (fun K23 hK23 => ?_)
  refine wp_region_lit ?_
  refine seq_do (v := .pointer (some ⟨g2, 0, none⟩)) hA rfl rfl rfl (does_field SmB_fld_26_0 rfl rfl) ?_
  intro a hA
  refine seq_do (v := .pointer (some ⟨g2, 0, none⟩)) hA rfl rfl rfl (does_field SmB_fld_24_0 rfl rfl) ?_
  intro a hA
  refine seq_do hA rfl rfl rfl (does_load1 hS SmB_is1_4 rfl 0 rfl rfl) ?_
  intro a hA
  refine seq_end ?_
  refine hK23 _ _ ?_
  refine wp_cond_false (hA.ev rfl) ?_
  refine wp_skip ?_
  refine hK22 _ _ ?_
  refine wp_seq_k (fun K24 hK24 => ?_)
  refine wp_seq_k (fun K25 hK25 => ?_)
  refine wp_region_lit ?_
  refine seq_do hA rfl rfl rfl (does_move rfl) ?_
  intro a hA
  refine seq_do (v := .bool false) hA rfl rfl rfl (does_bin rfl rfl (fun w => by kernel_rfl)) ?_
  intro a hA
  refine seq_end ?_
  refine hK25 _ _ ?_
  refine wp_cond_false (hA.ev rfl) ?_
  refine wp_skip ?_
  refine hK24 _ _ ?_
  refine wp_seq_k (fun K26 hK26 => ?_)
  refine wp_region_lit ?_
  refine seq_do hA rfl rfl rfl (does_move rfl) ?_
  intro a hA
  refine seq_do (v := .int .i64 0) hA rfl rfl rfl (does_convert rfl (ar_conv Tryz.underlying61 Tryz.underlying3 (in_i64 (by omega) (by omega)))) ?_
  intro a hA
  refine seq_do hA rfl rfl rfl (does_assign rfl) ?_
  intro a hA
  refine seq_do hA rfl rfl rfl (does_assign rfl) ?_
  intro a hA
  refine seq_end ?_
  refine hK26 _ _ ?_
  refine wp_ret ?_
  refine hret _ _ ?_
  refine ends (v := .tuple #[.int .i64 0, .int .i64 0]) hA rfl (.cons (res_tmp rfl) (.cons (res_tmp rfl) .nil)) rfl ?_
  exact ⟨by rw [show 0 = sgn false (0) from by simp only [sgn]; first | rfl | omega | (simp; omega)], hS.bel⟩
theorem rsmall1fS_any {w : World} {d0 : Nat} (h0 : d0 < 4294967296) {a1 a2 a3 a4 : Option Addr} {ac1 ac2 ac3 ac4 : Nat} (ha : Nm w ((⟨false, [d0], [1], false, [], [1]⟩ : Q6)) a1 ac1 a2 ac2 a3 ac3 a4 ac4) (hs : soundQ (⟨false, [d0], [1], false, [], [1]⟩ : Q6) = true) (hw : wholeQ (⟨false, [d0], [1], false, [], [1]⟩ : Q6) = true) (hk : (words (d0)) = [d0]) (hz : bl (d0) ≤ 64) (hc : d0 ≤ 9223372036854775807) : Calls Tryz.prog 15 #[numV (⟨false, [d0], [1], false, [], [1]⟩ : Q6) a1 ac1 a2 ac2 a3 ac3 a4 ac4] w fun e w' => e = .returned (.tuple #[.int .i64 (sgn false (d0)), .int .i64 0]) ∧ Below w.heap.size w w' := by
  have hS : St w w [] [(a4, [1]), (a3, []), (a2, [1]), (a1, [d0])] [] := ((((St.start w).addR ha.s1.rd).addR ha.s2.rd).addR ha.s3.rd).addR ha.s4.rd
  refine walk_of (l := [(0, .agg #[.bool false, .slice a1 1 ac1, .slice a2 1 ac2, .bool false, .slice a3 0 ac3, .slice a4 1 ac4])]) Tryz.func15 rfl Tryz.ntmps15 rfl rfl ?_
  intro Q hret hnorm hP a hA
  refine wp_seq_k (fun K1 hK1 => ?_)
  refine wp_region_lit ?_
  refine seq_new (vs := [.bool false, .slice a1 1 ac1, .slice a2 1 ac2, .bool false, .slice a3 0 ac3, .slice a4 1 ac4]) (t := 26) hA hS rfl rfl rfl (fun g => .pointer (some ⟨g, 0, none⟩)) (does_box rfl rfl) rfl ?_
  intro g2 w3 hS a hA
  refine seq_do hA rfl rfl rfl (does_assign rfl) ?_
  intro a hA
  refine seq_do hA rfl rfl rfl (does_assign rfl) ?_
  intro a hA
  refine seq_end ?_
  refine hK1 _ _ ?_
  refine wp_seq_k (fun K4 hK4 => ?_)
  refine wp_seq_k (fun K5 hK5 => ?_)
  refine wp_region_lit ?_
  refine seq_do (v := .agg #[.bool false, .slice a1 1 ac1, .slice a2 1 ac2, .bool false, .slice a3 0 ac3, .slice a4 1 ac4]) hA rfl rfl rfl (does_loadS hS SmB_isS_26 rfl 0 rfl (cs := [.bool false, .slice a1 1 ac1, .slice a2 1 ac2, .bool false, .slice a3 0 ac3, .slice a4 1 ac4]) rfl rfl) ?_
  intro a hA
  refine seq_call hA rfl rfl rfl (enters_func  rfl rfl (fun w => by kernel_rfl)) (rsoundQ_any (show Nm _ _ a1 ac1 a2 ac2 a3 ac3 a4 ac4 from ⟨⟨(hS.rd 3 rfl), ha.s1.nil, ha.s1.cap⟩, ⟨(hS.rd 2 rfl), ha.s2.nil, ha.s2.cap⟩, ⟨(hS.rd 1 rfl), ha.s3.nil, ha.s3.cap⟩, ⟨(hS.rd 0 rfl), ha.s4.nil, ha.s4.cap⟩⟩) ⟨Nat.le_of_ble_eq_true rfl, Nat.le_of_ble_eq_true rfl, Nat.le_of_ble_eq_true rfl, Nat.le_of_ble_eq_true rfl⟩ hs) ?_
  rintro _ w7 ⟨rfl, hb6⟩
  replace hS := hS.call hb6
  refine ⟨_, rfl, ?_⟩
  intro a hA
  refine seq_do (v := .bool false) hA rfl rfl rfl (does_un rfl un_not) ?_
  intro a hA
  refine seq_end ?_
  refine hK5 _ _ ?_
  refine wp_cond_false (hA.ev rfl) ?_
  refine wp_skip ?_
  refine hK4 _ _ ?_
  refine wp_seq_k (fun K8 hK8 => ?_)
  refine wp_seq_k (fun K9 hK9 => ?_)
  refine wp_region_lit ?_
  refine seq_do (v := .agg #[.bool false, .slice a1 1 ac1, .slice a2 1 ac2, .bool false, .slice a3 0 ac3, .slice a4 1 ac4]) hA rfl rfl rfl (does_loadS hS SmB_isS_26 rfl 0 rfl (cs := [.bool false, .slice a1 1 ac1, .slice a2 1 ac2, .bool false, .slice a3 0 ac3, .slice a4 1 ac4]) rfl rfl) ?_
  intro a hA
  refine seq_call hA rfl rfl rfl (enters_func  rfl rfl (fun w => by kernel_rfl)) (rwholeQ_any (show Nm _ _ a1 ac1 a2 ac2 a3 ac3 a4 ac4 from ⟨⟨(hS.rd 3 rfl), ha.s1.nil, ha.s1.cap⟩, ⟨(hS.rd 2 rfl), ha.s2.nil, ha.s2.cap⟩, ⟨(hS.rd 1 rfl), ha.s3.nil, ha.s3.cap⟩, ⟨(hS.rd 0 rfl), ha.s4.nil, ha.s4.cap⟩⟩) ⟨Nat.le_of_ble_eq_true rfl, Nat.le_of_ble_eq_true rfl, Nat.le_of_ble_eq_true rfl, Nat.le_of_ble_eq_true rfl⟩ hw) ?_
  rintro _ w11 ⟨rfl, hb10⟩
  replace hS := hS.call hb10
  refine ⟨_, rfl, ?_⟩
  intro a hA
  refine seq_do (v := .bool false) hA rfl rfl rfl (does_un rfl un_not) ?_
  intro a hA
  refine seq_end ?_
  refine hK9 _ _ ?_
  refine wp_cond_false (hA.ev rfl) ?_
  refine wp_skip ?_
  refine hK8 _ _ ?_
  refine wp_seq_k (fun K12 hK12 => ?_)
  refine wp_seq_k (fun K13 hK13 => ?_)
  refine wp_region_lit ?_
  refine seq_do (v := .pointer (some ⟨g2, 0, none⟩)) hA rfl rfl rfl (does_field SmB_fld_26_0 rfl rfl) ?_
  intro a hA
  refine seq_do (v := .pointer (some ⟨g2, 1, none⟩)) hA rfl rfl rfl (does_field SmB_fld_24_1 rfl rfl) ?_
  intro a hA
  refine seq_do hA rfl rfl rfl (does_load1 hS SmB_is1_22 rfl 0 rfl rfl) ?_
  intro a hA
  refine seq_call hA rfl rfl rfl (enters_func  rfl rfl (fun w => by kernel_rfl)) ((show Calls Tryz.prog 53 #[.slice a1 1 ac1] _ (fun e w' => e = .returned (.int .i64 ((bl (d0) : Nat) : Int)) ∧ w' = _) from (by have h9 := size_any (x := d0) ac1 (show Rd _ a1 (words (d0)) from (by rw [hk]; exact (hS.rd 3 rfl))) (by rw [hk]; exact Nat.le_of_ble_eq_true rfl); rw [hk] at h9; exact h9))) ?_
  rintro _ w15 ⟨rfl, hb14⟩
  replace hb14 := below_eq hb14
  replace hS := hS.call hb14
  refine ⟨_, rfl, ?_⟩
  intro a hA
  refine seq_do (v := .bool false) hA rfl rfl rfl (does_bin rfl rfl (fun w => (bin_gtr w).trans (by rw [show (decide (64 < ((bl (d0) : Nat) : Int))) = false from (decide_eq_false (by omega))]))) ?_
  intro a hA
  refine seq_end ?_
  refine hK13 _ _ ?_
  refine wp_cond_false (hA.ev rfl) ?_
  refine wp_skip ?_
  refine hK12 _ _ ?_
  refine wp_seq_k (fun K16 hK16 => ?_)
  refine wp_region_lit ?_
  refine seq_do hA rfl rfl rfl (does_assign rfl) ?_
  intro a hA
  refine seq_end ?_
  refine hK16 _ _ ?_
  refine wp_seq_k (fun K17 hK17 => ?_)
  refine wp_seq_k (fun K18 hK18 => ?_)
  refine wp_region_lit ?_
  refine seq_do (v := .pointer (some ⟨g2, 0, none⟩)) hA rfl rfl rfl (does_field SmB_fld_26_0 rfl rfl) ?_
  intro a hA
  refine seq_do (v := .pointer (some ⟨g2, 1, none⟩)) hA rfl rfl rfl (does_field SmB_fld_24_1 rfl rfl) ?_
  intro a hA
  refine seq_do hA rfl rfl rfl (does_load1 hS SmB_is1_22 rfl 0 rfl rfl) ?_
  intro a hA
  refine seq_do (v := .int .i64 1) hA rfl rfl rfl (does_len Tryz.underlying22 rfl) ?_
  intro a hA
  refine seq_do (v := .int .i64 0) hA rfl rfl rfl (does_bin rfl rfl (fun w => by kernel_rfl)) ?_
  intro a hA
  refine seq_do hA rfl rfl rfl (does_assign rfl) ?_
  intro a hA
  refine seq_end ?_
  refine hK18 _ _ ?_
  refine wp_block ?_
  refine wp_loop_rounds 12 ?_
  refine rounds_k (fun K19 hK19 => ?_)
  refine wp_seq_k (fun K20 hK20 => ?_)
  refine wp_seq_k (fun K21 hK21 => ?_)
  refine wp_region_lit ?_
  refine seq_do hA rfl rfl rfl (does_move rfl) ?_
  intro a hA
  refine seq_do (v := .bool true) hA rfl rfl rfl (does_bin rfl rfl (fun w => by kernel_rfl)) ?_
  intro a hA
  refine seq_end ?_
  refine hK21 _ _ ?_
  refine wp_cond_true (hA.ev rfl) ?_
  refine wp_skip ?_
  refine hK20 _ _ ?_
  refine wp_seq_k (fun K22 hK22 => ?_)
  refine wp_block ?_
  refine wp_region_lit ?_
  refine seq_do hA rfl rfl rfl (does_move rfl) ?_
  intro a hA
  refine seq_do (v := .int .u64 0) hA rfl rfl rfl (does_bin rfl rfl (ar_mul (by decide))) ?_
  intro a hA
  refine seq_do (v := .pointer (some ⟨g2, 0, none⟩)) hA rfl rfl rfl (does_field SmB_fld_26_0 rfl rfl) ?_
  intro a hA
  refine seq_do (v := .pointer (some ⟨g2, 1, none⟩)) hA rfl rfl rfl (does_field SmB_fld_24_1 rfl rfl) ?_
  intro a hA
  refine seq_do hA rfl rfl rfl (does_load1 hS SmB_is1_22 rfl 0 rfl rfl) ?_
  intro a hA
  refine seq_do hA rfl rfl rfl (does_move rfl) ?_
  intro a hA
  have hi26 : 0 < ([d0]).length := by first | (simp; done) | omega
  obtain ⟨b23, f24, hso25⟩ := Rd.addr (hS.rd 3 rfl) hi26
  refine seq_do (v := .pointer (some ⟨b23, f24 + 0, none⟩)) hA rfl rfl rfl (does_indexRow (k := 0) Tryz.underlying22 (by kernel_rfl) rfl rfl (by omega) hso25 (by omega)) ?_
  intro a hA
  refine seq_do (v := .int .u32 (((([d0]).getD 0 0 : Nat) : Int))) hA rfl rfl rfl (does_loadRow (hS.rd 3 rfl) hso25 hi26 SmB_is1_66 rfl) ?_
  intro a hA
  refine seq_do (v := .int .u64 (((d0 : Nat) : Int))) hA rfl rfl rfl (does_convert rfl (ar_conv Tryz.underlying66 Tryz.underlying61 (show IntKind.u64.wrap ((d0 : Nat) : Int) = ((d0 : Nat) : Int) from c32_u64 (by omega)))) ?_
  intro a hA
  refine seq_do (v := .int .u64 (((d0 : Nat) : Int))) hA rfl rfl rfl (does_bin rfl rfl (ar_add (show IntKind.u64.wrap (0 + ((d0 : Nat) : Int)) = ((d0 : Nat) : Int) from (in_u64 (by omega) (by omega)).trans (by omega)))) ?_
  intro a hA
  refine seq_do hA rfl rfl rfl (does_assign rfl) ?_
  intro a hA
  refine seq_end ?_
  refine hK22 _ _ ?_
  refine wp_region_lit ?_
  refine seq_do hA rfl rfl rfl (does_move rfl) ?_
  intro a hA
  refine seq_do (v := .int .i64 (-1)) hA rfl rfl rfl (does_bin rfl rfl (fun w => by kernel_rfl)) ?_
  intro a hA
  refine seq_do hA rfl rfl rfl (does_assign rfl) ?_
  intro a hA
  refine seq_end ?_
  refine hK19 _ _ ?_
  refine rounds_k (fun K27 hK27 => ?_)
  refine wp_seq_k (fun K28 hK28 => ?_)
  refine wp_seq_k (fun K29 hK29 => ?_)
  refine wp_region_lit ?_
  refine seq_do hA rfl rfl rfl (does_move rfl) ?_
  intro a hA
  refine seq_do (v := .bool false) hA rfl rfl rfl (does_bin rfl rfl (fun w => by kernel_rfl)) ?_
  intro a hA
  refine seq_end ?_
  refine hK29 _ _ ?_
  refine wp_cond_false (hA.ev rfl) ?_
  refine wp_exit ?_
  refine hK17 _ _ ?_
  refine wp_seq_k (fun K30 hK30 => ?_)
  refine wp_seq_k (fun K31 hK31 => ?_)
  refine wp_region_lit ?_
  refine seq_do (v := .pointer (some ⟨g2, 0, none⟩)) hA rfl rfl rfl (does_field SmB_fld_26_0 rfl rfl) ?_
  intro a hA
  refine seq_do (v := .pointer (some ⟨g2, 0, none⟩)) hA rfl rfl rfl (does_field SmB_fld_24_0 rfl rfl) ?_
  intro a hA
  refine seq_do hA rfl rfl rfl (does_load1 hS SmB_is1_4 rfl 0 rfl rfl) ?_
  intro a hA
  refine seq_end ?_
  refine hK31 _ _ ?_
  refine wp_cond_false (hA.ev rfl) ?_
  refine wp_skip ?_
  refine hK30 _ _ ?_
  refine wp_seq_k (fun K32 hK32 => ?_)
  refine wp_seq_k (fun K33 hK33 => ?_)
  refine wp_region_lit ?_
  refine seq_do hA rfl rfl rfl (does_move rfl) ?_
  intro a hA
  refine seq_do (v := .bool false) hA rfl rfl rfl (does_bin rfl rfl (fun w => (bin_geq w).trans (by rw [show (decide (9223372036854775808 ≤ ((d0 : Nat) : Int))) = false from (decide_eq_false (by omega))]))) ?_
  intro a hA
  refine seq_end ?_
  refine hK33 _ _ ?_
  refine wp_cond_false (hA.ev rfl) ?_
  refine wp_skip ?_
  refine hK32 _ _ ?_
  refine wp_seq_k (fun K34 hK34 => ?_)
  refine wp_region_lit ?_
  refine seq_do hA rfl rfl rfl (does_move rfl) ?_
  intro a hA
  refine seq_do (v := .int .i64 (((d0 : Nat) : Int))) hA rfl rfl rfl (does_convert rfl (ar_conv Tryz.underlying61 Tryz.underlying3 (in_i64 (by omega) (by omega)))) ?_
  intro a hA
  refine seq_do hA rfl rfl rfl (does_assign rfl) ?_
  intro a hA
  refine seq_do hA rfl rfl rfl (does_assign rfl) ?_
  intro a hA
  refine seq_end ?_
  refine hK34 _ _ ?_
  refine wp_ret ?_
  refine hret _ _ ?_
  refine ends (v := .tuple #[.int .i64 (((d0 : Nat) : Int)), .int .i64 0]) hA rfl (.cons (res_tmp rfl) (.cons (res_tmp rfl) .nil)) rfl ?_
  exact ⟨by rw [show (((d0 : Nat) : Int)) = sgn false (d0) from by simp only [sgn]; first | rfl | omega | (simp; omega)], hS.bel⟩
theorem rsmall1tS_any {w : World} {d0 : Nat} (h0 : d0 < 4294967296) {a1 a2 a3 a4 : Option Addr} {ac1 ac2 ac3 ac4 : Nat} (ha : Nm w ((⟨true, [d0], [1], false, [], [1]⟩ : Q6)) a1 ac1 a2 ac2 a3 ac3 a4 ac4) (hs : soundQ (⟨true, [d0], [1], false, [], [1]⟩ : Q6) = true) (hw : wholeQ (⟨true, [d0], [1], false, [], [1]⟩ : Q6) = true) (hk : (words (d0)) = [d0]) (hz : bl (d0) ≤ 64) (hc : d0 ≤ 9223372036854775808) (hp : 1 ≤ d0) : Calls Tryz.prog 15 #[numV (⟨true, [d0], [1], false, [], [1]⟩ : Q6) a1 ac1 a2 ac2 a3 ac3 a4 ac4] w fun e w' => e = .returned (.tuple #[.int .i64 (sgn true (d0)), .int .i64 0]) ∧ Below w.heap.size w w' := by
  have hS : St w w [] [(a4, [1]), (a3, []), (a2, [1]), (a1, [d0])] [] := ((((St.start w).addR ha.s1.rd).addR ha.s2.rd).addR ha.s3.rd).addR ha.s4.rd
  refine walk_of (l := [(0, .agg #[.bool true, .slice a1 1 ac1, .slice a2 1 ac2, .bool false, .slice a3 0 ac3, .slice a4 1 ac4])]) Tryz.func15 rfl Tryz.ntmps15 rfl rfl ?_
  intro Q hret hnorm hP a hA
  refine wp_seq_k (fun K1 hK1 => ?_)
  refine wp_region_lit ?_
  refine seq_new (vs := [.bool true, .slice a1 1 ac1, .slice a2 1 ac2, .bool false, .slice a3 0 ac3, .slice a4 1 ac4]) (t := 26) hA hS rfl rfl rfl (fun g => .pointer (some ⟨g, 0, none⟩)) (does_box rfl rfl) rfl ?_
  intro g2 w3 hS a hA
  refine seq_do hA rfl rfl rfl (does_assign rfl) ?_
  intro a hA
  refine seq_do hA rfl rfl rfl (does_assign rfl) ?_
  intro a hA
  refine seq_end ?_
  refine hK1 _ _ ?_
  refine wp_seq_k (fun K4 hK4 => ?_)
  refine wp_seq_k (fun K5 hK5 => ?_)
  refine wp_region_lit ?_
  refine seq_do (v := .agg #[.bool true, .slice a1 1 ac1, .slice a2 1 ac2, .bool false, .slice a3 0 ac3, .slice a4 1 ac4]) hA rfl rfl rfl (does_loadS hS SmB_isS_26 rfl 0 rfl (cs := [.bool true, .slice a1 1 ac1, .slice a2 1 ac2, .bool false, .slice a3 0 ac3, .slice a4 1 ac4]) rfl rfl) ?_
  intro a hA
  refine seq_call hA rfl rfl rfl (enters_func  rfl rfl (fun w => by kernel_rfl)) (rsoundQ_any (show Nm _ _ a1 ac1 a2 ac2 a3 ac3 a4 ac4 from ⟨⟨(hS.rd 3 rfl), ha.s1.nil, ha.s1.cap⟩, ⟨(hS.rd 2 rfl), ha.s2.nil, ha.s2.cap⟩, ⟨(hS.rd 1 rfl), ha.s3.nil, ha.s3.cap⟩, ⟨(hS.rd 0 rfl), ha.s4.nil, ha.s4.cap⟩⟩) ⟨Nat.le_of_ble_eq_true rfl, Nat.le_of_ble_eq_true rfl, Nat.le_of_ble_eq_true rfl, Nat.le_of_ble_eq_true rfl⟩ hs) ?_
  rintro _ w7 ⟨rfl, hb6⟩
  replace hS := hS.call hb6
  refine ⟨_, rfl, ?_⟩
  intro a hA
  refine seq_do (v := .bool false) hA rfl rfl rfl (does_un rfl un_not) ?_
  intro a hA
  refine seq_end ?_
  refine hK5 _ _ ?_
  refine wp_cond_false (hA.ev rfl) ?_
  refine wp_skip ?_
  refine hK4 _ _ ?_
  refine wp_seq_k (fun K8 hK8 => ?_)
  refine wp_seq_k (fun K9 hK9 => ?_)
  refine wp_region_lit ?_
  refine seq_do (v := .agg #[.bool true, .slice a1 1 ac1, .slice a2 1 ac2, .bool false, .slice a3 0 ac3, .slice a4 1 ac4]) hA rfl rfl rfl (does_loadS hS SmB_isS_26 rfl 0 rfl (cs := [.bool true, .slice a1 1 ac1, .slice a2 1 ac2, .bool false, .slice a3 0 ac3, .slice a4 1 ac4]) rfl rfl) ?_
  intro a hA
  refine seq_call hA rfl rfl rfl (enters_func  rfl rfl (fun w => by kernel_rfl)) (rwholeQ_any (show Nm _ _ a1 ac1 a2 ac2 a3 ac3 a4 ac4 from ⟨⟨(hS.rd 3 rfl), ha.s1.nil, ha.s1.cap⟩, ⟨(hS.rd 2 rfl), ha.s2.nil, ha.s2.cap⟩, ⟨(hS.rd 1 rfl), ha.s3.nil, ha.s3.cap⟩, ⟨(hS.rd 0 rfl), ha.s4.nil, ha.s4.cap⟩⟩) ⟨Nat.le_of_ble_eq_true rfl, Nat.le_of_ble_eq_true rfl, Nat.le_of_ble_eq_true rfl, Nat.le_of_ble_eq_true rfl⟩ hw) ?_
  rintro _ w11 ⟨rfl, hb10⟩
  replace hS := hS.call hb10
  refine ⟨_, rfl, ?_⟩
  intro a hA
  refine seq_do (v := .bool false) hA rfl rfl rfl (does_un rfl un_not) ?_
  intro a hA
  refine seq_end ?_
  refine hK9 _ _ ?_
  refine wp_cond_false (hA.ev rfl) ?_
  refine wp_skip ?_
  refine hK8 _ _ ?_
  refine wp_seq_k (fun K12 hK12 => ?_)
  refine wp_seq_k (fun K13 hK13 => ?_)
  refine wp_region_lit ?_
  refine seq_do (v := .pointer (some ⟨g2, 0, none⟩)) hA rfl rfl rfl (does_field SmB_fld_26_0 rfl rfl) ?_
  intro a hA
  refine seq_do (v := .pointer (some ⟨g2, 1, none⟩)) hA rfl rfl rfl (does_field SmB_fld_24_1 rfl rfl) ?_
  intro a hA
  refine seq_do hA rfl rfl rfl (does_load1 hS SmB_is1_22 rfl 0 rfl rfl) ?_
  intro a hA
  refine seq_call hA rfl rfl rfl (enters_func  rfl rfl (fun w => by kernel_rfl)) ((show Calls Tryz.prog 53 #[.slice a1 1 ac1] _ (fun e w' => e = .returned (.int .i64 ((bl (d0) : Nat) : Int)) ∧ w' = _) from (by have h9 := size_any (x := d0) ac1 (show Rd _ a1 (words (d0)) from (by rw [hk]; exact (hS.rd 3 rfl))) (by rw [hk]; exact Nat.le_of_ble_eq_true rfl); rw [hk] at h9; exact h9))) ?_
  rintro _ w15 ⟨rfl, hb14⟩
  replace hb14 := below_eq hb14
  replace hS := hS.call hb14
  refine ⟨_, rfl, ?_⟩
  intro a hA
  refine seq_do (v := .bool false) hA rfl rfl rfl (does_bin rfl rfl (fun w => (bin_gtr w).trans (by rw [show (decide (64 < ((bl (d0) : Nat) : Int))) = false from (decide_eq_false (by omega))]))) ?_
  intro a hA
  refine seq_end ?_
  refine hK13 _ _ ?_
  refine wp_cond_false (hA.ev rfl) ?_
  refine wp_skip ?_
  refine hK12 _ _ ?_
  refine wp_seq_k (fun K16 hK16 => ?_)
  refine wp_region_lit ?_
  refine seq_do hA rfl rfl rfl (does_assign rfl) ?_
  intro a hA
  refine seq_end ?_
  refine hK16 _ _ ?_
  refine wp_seq_k (fun K17 hK17 => ?_)
  refine wp_seq_k (fun K18 hK18 => ?_)
  refine wp_region_lit ?_
  refine seq_do (v := .pointer (some ⟨g2, 0, none⟩)) hA rfl rfl rfl (does_field SmB_fld_26_0 rfl rfl) ?_
  intro a hA
  refine seq_do (v := .pointer (some ⟨g2, 1, none⟩)) hA rfl rfl rfl (does_field SmB_fld_24_1 rfl rfl) ?_
  intro a hA
  refine seq_do hA rfl rfl rfl (does_load1 hS SmB_is1_22 rfl 0 rfl rfl) ?_
  intro a hA
  refine seq_do (v := .int .i64 1) hA rfl rfl rfl (does_len Tryz.underlying22 rfl) ?_
  intro a hA
  refine seq_do (v := .int .i64 0) hA rfl rfl rfl (does_bin rfl rfl (fun w => by kernel_rfl)) ?_
  intro a hA
  refine seq_do hA rfl rfl rfl (does_assign rfl) ?_
  intro a hA
  refine seq_end ?_
  refine hK18 _ _ ?_
  refine wp_block ?_
  refine wp_loop_rounds 12 ?_
  refine rounds_k (fun K19 hK19 => ?_)
  refine wp_seq_k (fun K20 hK20 => ?_)
  refine wp_seq_k (fun K21 hK21 => ?_)
  refine wp_region_lit ?_
  refine seq_do hA rfl rfl rfl (does_move rfl) ?_
  intro a hA
  refine seq_do (v := .bool true) hA rfl rfl rfl (does_bin rfl rfl (fun w => by kernel_rfl)) ?_
  intro a hA
  refine seq_end ?_
  refine hK21 _ _ ?_
  refine wp_cond_true (hA.ev rfl) ?_
  refine wp_skip ?_
  refine hK20 _ _ ?_
  refine wp_seq_k (fun K22 hK22 => ?_)
  refine wp_block ?_
  refine wp_region_lit ?_
  refine seq_do hA rfl rfl rfl (does_move rfl) ?_
  intro a hA
  refine seq_do (v := .int .u64 0) hA rfl rfl rfl (does_bin rfl rfl (ar_mul (by decide))) ?_
  intro a hA
  refine seq_do (v := .pointer (some ⟨g2, 0, none⟩)) hA rfl rfl rfl (does_field SmB_fld_26_0 rfl rfl) ?_
  intro a hA
  refine seq_do (v := .pointer (some ⟨g2, 1, none⟩)) hA rfl rfl rfl (does_field SmB_fld_24_1 rfl rfl) ?_
  intro a hA
  refine seq_do hA rfl rfl rfl (does_load1 hS SmB_is1_22 rfl 0 rfl rfl) ?_
  intro a hA
  refine seq_do hA rfl rfl rfl (does_move rfl) ?_
  intro a hA
  have hi26 : 0 < ([d0]).length := by first | (simp; done) | omega
  obtain ⟨b23, f24, hso25⟩ := Rd.addr (hS.rd 3 rfl) hi26
  refine seq_do (v := .pointer (some ⟨b23, f24 + 0, none⟩)) hA rfl rfl rfl (does_indexRow (k := 0) Tryz.underlying22 (by kernel_rfl) rfl rfl (by omega) hso25 (by omega)) ?_
  intro a hA
  refine seq_do (v := .int .u32 (((([d0]).getD 0 0 : Nat) : Int))) hA rfl rfl rfl (does_loadRow (hS.rd 3 rfl) hso25 hi26 SmB_is1_66 rfl) ?_
  intro a hA
  refine seq_do (v := .int .u64 (((d0 : Nat) : Int))) hA rfl rfl rfl (does_convert rfl (ar_conv Tryz.underlying66 Tryz.underlying61 (show IntKind.u64.wrap ((d0 : Nat) : Int) = ((d0 : Nat) : Int) from c32_u64 (by omega)))) ?_
  intro a hA
  refine seq_do (v := .int .u64 (((d0 : Nat) : Int))) hA rfl rfl rfl (does_bin rfl rfl (ar_add (show IntKind.u64.wrap (0 + ((d0 : Nat) : Int)) = ((d0 : Nat) : Int) from (in_u64 (by omega) (by omega)).trans (by omega)))) ?_
  intro a hA
  refine seq_do hA rfl rfl rfl (does_assign rfl) ?_
  intro a hA
  refine seq_end ?_
  refine hK22 _ _ ?_
  refine wp_region_lit ?_
  refine seq_do hA rfl rfl rfl (does_move rfl) ?_
  intro a hA
  refine seq_do (v := .int .i64 (-1)) hA rfl rfl rfl (does_bin rfl rfl (fun w => by kernel_rfl)) ?_
  intro a hA
  refine seq_do hA rfl rfl rfl (does_assign rfl) ?_
  intro a hA
  refine seq_end ?_
  refine hK19 _ _ ?_
  refine rounds_k (fun K27 hK27 => ?_)
  refine wp_seq_k (fun K28 hK28 => ?_)
  refine wp_seq_k (fun K29 hK29 => ?_)
  refine wp_region_lit ?_
  refine seq_do hA rfl rfl rfl (does_move rfl) ?_
  intro a hA
  refine seq_do (v := .bool false) hA rfl rfl rfl (does_bin rfl rfl (fun w => by kernel_rfl)) ?_
  intro a hA
  refine seq_end ?_
  refine hK29 _ _ ?_
  refine wp_cond_false (hA.ev rfl) ?_
  refine wp_exit ?_
  refine hK17 _ _ ?_
  refine wp_seq_k (fun K30 hK30 => ?_)
  refine wp_seq_k (fun K31 hK31 => ?_)
  refine wp_region_lit ?_
  refine seq_do (v := .pointer (some ⟨g2, 0, none⟩)) hA rfl rfl rfl (does_field SmB_fld_26_0 rfl rfl) ?_
  intro a hA
  refine seq_do (v := .pointer (some ⟨g2, 0, none⟩)) hA rfl rfl rfl (does_field SmB_fld_24_0 rfl rfl) ?_
  intro a hA
  refine seq_do hA rfl rfl rfl (does_load1 hS SmB_is1_4 rfl 0 rfl rfl) ?_
  intro a hA
  refine seq_end ?_
  refine hK31 _ _ ?_
  refine wp_cond_true (hA.ev rfl) ?_
  refine wp_seq_k (fun K32 hK32 => ?_)
  refine wp_seq_k (fun K33 hK33 => ?_)
  refine wp_region_lit ?_
  refine seq_do hA rfl rfl rfl (does_move rfl) ?_
  intro a hA
  refine seq_do (v := .bool false) hA rfl rfl rfl (does_bin rfl rfl (fun w => (bin_gtr w).trans (by rw [show (decide (9223372036854775808 < ((d0 : Nat) : Int))) = false from (decide_eq_false (by omega))]))) ?_
  intro a hA
  refine seq_end ?_
  refine hK33 _ _ ?_
  refine wp_cond_false (hA.ev rfl) ?_
  refine wp_skip ?_
  refine hK32 _ _ ?_
  refine wp_seq_k (fun K34 hK34 => ?_)
  refine wp_region_lit ?_
  refine seq_do hA rfl rfl rfl (does_move rfl) ?_
  intro a hA
  refine seq_do (v := .int .u64 (((d0 - 1 : Nat) : Int))) hA rfl rfl rfl (does_bin rfl rfl (ar_sub (show IntKind.u64.wrap (((d0 : Nat) : Int) - 1) = ((d0 - 1 : Nat) : Int) from (in_u64 (by omega) (by omega)).trans (by omega)))) ?_
  intro a hA
  refine seq_do (v := .int .i64 (((d0 - 1 : Nat) : Int))) hA rfl rfl rfl (does_convert rfl (ar_conv Tryz.underlying61 Tryz.underlying3 (in_i64 (by omega) (by omega)))) ?_
  intro a hA
  refine seq_do (v := .int .i64 (-(((d0 - 1 : Nat) : Int)))) hA rfl rfl rfl (does_un rfl (ar_neg (in_i64 (by omega) (by omega)))) ?_
  intro a hA
  refine seq_do (v := .int .i64 (-(((d0 - 1 : Nat) : Int)) - 1)) hA rfl rfl rfl (does_bin rfl rfl (bin_sub (i64In (by omega) (by omega)))) ?_
  intro a hA
  refine seq_do hA rfl rfl rfl (does_assign rfl) ?_
  intro a hA
  refine seq_do hA rfl rfl rfl (does_assign rfl) ?_
  intro a hA
  refine seq_end ?_
  refine hK34 _ _ ?_
  refine wp_ret ?_
  refine hret _ _ ?_
  refine ends (v := .tuple #[.int .i64 (-(((d0 - 1 : Nat) : Int)) - 1), .int .i64 0]) hA rfl (.cons (res_tmp rfl) (.cons (res_tmp rfl) .nil)) rfl ?_
  exact ⟨by rw [show (-(((d0 - 1 : Nat) : Int)) - 1) = sgn true (d0) from by simp only [sgn]; first | rfl | omega | (simp; omega)], hS.bel⟩
theorem rsmall2fL_any {w : World} {d0 d1 y x : Nat} (h0 : d0 < 4294967296) (h1 : d1 < 4294967296) (hy : d1 * 4294967296 = y) (hx : y + d0 = x) {a1 a2 a3 a4 : Option Addr} {ac1 ac2 ac3 ac4 : Nat} (ha : Nm w ((⟨false, [d0, d1], [1], false, [], [1]⟩ : Q6)) a1 ac1 a2 ac2 a3 ac3 a4 ac4) (hs : soundQ (⟨false, [d0, d1], [1], false, [], [1]⟩ : Q6) = true) (hw : wholeQ (⟨false, [d0, d1], [1], false, [], [1]⟩ : Q6) = true) (hk : (words (x)) = [d0, d1]) (hz : bl (x) ≤ 64) (hc : ¬ x ≤ 9223372036854775807) : Calls Tryz.prog 15 #[numV (⟨false, [d0, d1], [1], false, [], [1]⟩ : Q6) a1 ac1 a2 ac2 a3 ac3 a4 ac4] w fun e w' => e = .returned (.tuple #[.int .i64 0, .int .i64 4]) ∧ Below w.heap.size w w' := by
  have hS : St w w [] [(a4, [1]), (a3, []), (a2, [1]), (a1, [d0, d1])] [] := ((((St.start w).addR ha.s1.rd).addR ha.s2.rd).addR ha.s3.rd).addR ha.s4.rd
  refine walk_of (l := [(0, .agg #[.bool false, .slice a1 2 ac1, .slice a2 1 ac2, .bool false, .slice a3 0 ac3, .slice a4 1 ac4])]) Tryz.func15 rfl Tryz.ntmps15 rfl rfl ?_
  intro Q hret hnorm hP a hA
  refine wp_seq_k (fun K1 hK1 => ?_)
  refine wp_region_lit ?_
  refine seq_new (vs := [.bool false, .slice a1 2 ac1, .slice a2 1 ac2, .bool false, .slice a3 0 ac3, .slice a4 1 ac4]) (t := 26) hA hS rfl rfl rfl (fun g => .pointer (some ⟨g, 0, none⟩)) (does_box rfl rfl) rfl ?_
  intro g2 w3 hS a hA
  refine seq_do hA rfl rfl rfl (does_assign rfl) ?_
  intro a hA
  refine seq_do hA rfl rfl rfl (does_assign rfl) ?_
  intro a hA
  refine seq_end ?_
  refine hK1 _ _ ?_
  refine wp_seq_k (fun K4 hK4 => ?_)
  refine wp_seq_k (fun K5 hK5 => ?_)
  refine wp_region_lit ?_
  refine seq_do (v := .agg #[.bool false, .slice a1 2 ac1, .slice a2 1 ac2, .bool false, .slice a3 0 ac3, .slice a4 1 ac4]) hA rfl rfl rfl (does_loadS hS SmB_isS_26 rfl 0 rfl (cs := [.bool false, .slice a1 2 ac1, .slice a2 1 ac2, .bool false, .slice a3 0 ac3, .slice a4 1 ac4]) rfl rfl) ?_
  intro a hA
  refine seq_call hA rfl rfl rfl (enters_func  rfl rfl (fun w => by kernel_rfl)) (rsoundQ_any (show Nm _ _ a1 ac1 a2 ac2 a3 ac3 a4 ac4 from ⟨⟨(hS.rd 3 rfl), ha.s1.nil, ha.s1.cap⟩, ⟨(hS.rd 2 rfl), ha.s2.nil, ha.s2.cap⟩, ⟨(hS.rd 1 rfl), ha.s3.nil, ha.s3.cap⟩, ⟨(hS.rd 0 rfl), ha.s4.nil, ha.s4.cap⟩⟩) ⟨Nat.le_of_ble_eq_true rfl, Nat.le_of_ble_eq_true rfl, Nat.le_of_ble_eq_true rfl, Nat.le_of_ble_eq_true rfl⟩ hs) ?_
  rintro _ w7 ⟨rfl, hb6⟩
  replace hS := hS.call hb6
  refine ⟨_, rfl, ?_⟩
  intro a hA
  refine seq_do (v := .bool false) hA rfl rfl rfl (does_un rfl un_not) ?_
  intro a hA
  refine seq_end ?_
  refine hK5 _ _ ?_
  refine wp_cond_false (hA.ev rfl) ?_
  refine wp_skip ?_
  refine hK4 _ _ ?_
  refine wp_seq_k (fun K8 hK8 => ?_)
  refine wp_seq_k (fun K9 hK9 => ?_)
  refine wp_region_lit ?_
  refine seq_do (v := .agg #[.bool false, .slice a1 2 ac1, .slice a2 1 ac2, .bool false, .slice a3 0 ac3, .slice a4 1 ac4]) hA rfl rfl rfl (does_loadS hS SmB_isS_26 rfl 0 rfl (cs := [.bool false, .slice a1 2 ac1, .slice a2 1 ac2, .bool false, .slice a3 0 ac3, .slice a4 1 ac4]) rfl rfl) ?_
  intro a hA
  refine seq_call hA rfl rfl rfl (enters_func  rfl rfl (fun w => by kernel_rfl)) (rwholeQ_any (show Nm _ _ a1 ac1 a2 ac2 a3 ac3 a4 ac4 from ⟨⟨(hS.rd 3 rfl), ha.s1.nil, ha.s1.cap⟩, ⟨(hS.rd 2 rfl), ha.s2.nil, ha.s2.cap⟩, ⟨(hS.rd 1 rfl), ha.s3.nil, ha.s3.cap⟩, ⟨(hS.rd 0 rfl), ha.s4.nil, ha.s4.cap⟩⟩) ⟨Nat.le_of_ble_eq_true rfl, Nat.le_of_ble_eq_true rfl, Nat.le_of_ble_eq_true rfl, Nat.le_of_ble_eq_true rfl⟩ hw) ?_
  rintro _ w11 ⟨rfl, hb10⟩
  replace hS := hS.call hb10
  refine ⟨_, rfl, ?_⟩
  intro a hA
  refine seq_do (v := .bool false) hA rfl rfl rfl (does_un rfl un_not) ?_
  intro a hA
  refine seq_end ?_
  refine hK9 _ _ ?_
  refine wp_cond_false (hA.ev rfl) ?_
  refine wp_skip ?_
  refine hK8 _ _ ?_
  refine wp_seq_k (fun K12 hK12 => ?_)
  refine wp_seq_k (fun K13 hK13 => ?_)
  refine wp_region_lit ?_
  refine seq_do (v := .pointer (some ⟨g2, 0, none⟩)) hA rfl rfl rfl (does_field SmB_fld_26_0 rfl rfl) ?_
  intro a hA
  refine seq_do (v := .pointer (some ⟨g2, 1, none⟩)) hA rfl rfl rfl (does_field SmB_fld_24_1 rfl rfl) ?_
  intro a hA
  refine seq_do hA rfl rfl rfl (does_load1 hS SmB_is1_22 rfl 0 rfl rfl) ?_
  intro a hA
  refine seq_call hA rfl rfl rfl (enters_func  rfl rfl (fun w => by kernel_rfl)) ((show Calls Tryz.prog 53 #[.slice a1 2 ac1] _ (fun e w' => e = .returned (.int .i64 ((bl (x) : Nat) : Int)) ∧ w' = _) from (by have h9 := size_any (x := x) ac1 (show Rd _ a1 (words (x)) from (by rw [hk]; exact (hS.rd 3 rfl))) (by rw [hk]; exact Nat.le_of_ble_eq_true rfl); rw [hk] at h9; exact h9))) ?_
  rintro _ w15 ⟨rfl, hb14⟩
  replace hb14 := below_eq hb14
  replace hS := hS.call hb14
  refine ⟨_, rfl, ?_⟩
  intro a hA
  refine seq_do (v := .bool false) hA rfl rfl rfl (does_bin rfl rfl (fun w => (bin_gtr w).trans (by rw [show (decide (64 < ((bl (x) : Nat) : Int))) = false from (decide_eq_false (by omega))]))) ?_
  intro a hA
  refine seq_end ?_
  refine hK13 _ _ ?_
  refine wp_cond_false (hA.ev rfl) ?_
  refine wp_skip ?_
  refine hK12 _ _ ?_
  refine wp_seq_k (fun K16 hK16 => ?_)
  refine wp_region_lit ?_
  refine seq_do hA rfl rfl rfl (does_assign rfl) ?_
  intro a hA
  refine seq_end ?_
  refine hK16 _ _ ?_
  refine wp_seq_k (fun K17 hK17 => ?_)
  refine wp_seq_k (fun K18 hK18 => ?_)
  refine wp_region_lit ?_
  refine seq_do (v := .pointer (some ⟨g2, 0, none⟩)) hA rfl rfl rfl (does_field SmB_fld_26_0 rfl rfl) ?_
  intro a hA
  refine seq_do (v := .pointer (some ⟨g2, 1, none⟩)) hA rfl rfl rfl (does_field SmB_fld_24_1 rfl rfl) ?_
  intro a hA
  refine seq_do hA rfl rfl rfl (does_load1 hS SmB_is1_22 rfl 0 rfl rfl) ?_
  intro a hA
  refine seq_do (v := .int .i64 2) hA rfl rfl rfl (does_len Tryz.underlying22 rfl) ?_
  intro a hA
  refine seq_do (v := .int .i64 1) hA rfl rfl rfl (does_bin rfl rfl (fun w => by kernel_rfl)) ?_
  intro a hA
  refine seq_do hA rfl rfl rfl (does_assign rfl) ?_
  intro a hA
  refine seq_end ?_
  refine hK18 _ _ ?_
  refine wp_block ?_
  refine wp_loop_rounds 12 ?_
  refine rounds_k (fun K19 hK19 => ?_)
  refine wp_seq_k (fun K20 hK20 => ?_)
  refine wp_seq_k (fun K21 hK21 => ?_)
  refine wp_region_lit ?_
  refine seq_do hA rfl rfl rfl (does_move rfl) ?_
  intro a hA
  refine seq_do (v := .bool true) hA rfl rfl rfl (does_bin rfl rfl (fun w => by kernel_rfl)) ?_
  intro a hA
  refine seq_end ?_
  refine hK21 _ _ ?_
  refine wp_cond_true (hA.ev rfl) ?_
  refine wp_skip ?_
  refine hK20 _ _ ?_
  refine wp_seq_k (fun K22 hK22 => ?_)
  refine wp_block ?_
  refine wp_region_lit ?_
  refine seq_do hA rfl rfl rfl (does_move rfl) ?_
  intro a hA
  refine seq_do (v := .int .u64 0) hA rfl rfl rfl (does_bin rfl rfl (ar_mul (by decide))) ?_
  intro a hA
  refine seq_do (v := .pointer (some ⟨g2, 0, none⟩)) hA rfl rfl rfl (does_field SmB_fld_26_0 rfl rfl) ?_
  intro a hA
  refine seq_do (v := .pointer (some ⟨g2, 1, none⟩)) hA rfl rfl rfl (does_field SmB_fld_24_1 rfl rfl) ?_
  intro a hA
  refine seq_do hA rfl rfl rfl (does_load1 hS SmB_is1_22 rfl 0 rfl rfl) ?_
  intro a hA
  refine seq_do hA rfl rfl rfl (does_move rfl) ?_
  intro a hA
  have hi26 : 1 < ([d0, d1]).length := by first | (simp; done) | omega
  obtain ⟨b23, f24, hso25⟩ := Rd.addr (hS.rd 3 rfl) hi26
  refine seq_do (v := .pointer (some ⟨b23, f24 + 1, none⟩)) hA rfl rfl rfl (does_indexRow (k := 1) Tryz.underlying22 (by kernel_rfl) rfl rfl (by omega) hso25 (by omega)) ?_
  intro a hA
  refine seq_do (v := .int .u32 (((([d0, d1]).getD 1 0 : Nat) : Int))) hA rfl rfl rfl (does_loadRow (hS.rd 3 rfl) hso25 hi26 SmB_is1_66 rfl) ?_
  intro a hA
  refine seq_do (v := .int .u64 (((d1 : Nat) : Int))) hA rfl rfl rfl (does_convert rfl (ar_conv Tryz.underlying66 Tryz.underlying61 (show IntKind.u64.wrap ((d1 : Nat) : Int) = ((d1 : Nat) : Int) from c32_u64 (by omega)))) ?_
  intro a hA
  refine seq_do (v := .int .u64 (((d1 : Nat) : Int))) hA rfl rfl rfl (does_bin rfl rfl (ar_add (show IntKind.u64.wrap (0 + ((d1 : Nat) : Int)) = ((d1 : Nat) : Int) from (in_u64 (by omega) (by omega)).trans (by omega)))) ?_
  intro a hA
  refine seq_do hA rfl rfl rfl (does_assign rfl) ?_
  intro a hA
  refine seq_end ?_
  refine hK22 _ _ ?_
  refine wp_region_lit ?_
  refine seq_do hA rfl rfl rfl (does_move rfl) ?_
  intro a hA
  refine seq_do (v := .int .i64 0) hA rfl rfl rfl (does_bin rfl rfl (fun w => by kernel_rfl)) ?_
  intro a hA
  refine seq_do hA rfl rfl rfl (does_assign rfl) ?_
  intro a hA
  refine seq_end ?_
  refine hK19 _ _ ?_
  refine rounds_k (fun K27 hK27 => ?_)
  refine wp_seq_k (fun K28 hK28 => ?_)
  refine wp_seq_k (fun K29 hK29 => ?_)
  refine wp_region_lit ?_
  refine seq_do hA rfl rfl rfl (does_move rfl) ?_
  intro a hA
  refine seq_do (v := .bool true) hA rfl rfl rfl (does_bin rfl rfl (fun w => by kernel_rfl)) ?_
  intro a hA
  refine seq_end ?_
  refine hK29 _ _ ?_
  refine wp_cond_true (hA.ev rfl) ?_
  refine wp_skip ?_
  refine hK28 _ _ ?_
  refine wp_seq_k (fun K30 hK30 => ?_)
  refine wp_block ?_
  refine wp_region_lit ?_
  refine seq_do hA rfl rfl rfl (does_move rfl) ?_
  intro a hA
  refine seq_do (v := .int .u64 (((y : Nat) : Int))) hA rfl rfl rfl (does_bin rfl rfl (ar_mul (show IntKind.u64.wrap (((d1 : Nat) : Int) * 4294967296) = ((y : Nat) : Int) from (in_u64 (by omega) (by omega)).trans (by omega)))) ?_
  intro a hA
  refine seq_do (v := .pointer (some ⟨g2, 0, none⟩)) hA rfl rfl rfl (does_field SmB_fld_26_0 rfl rfl) ?_
  intro a hA
  refine seq_do (v := .pointer (some ⟨g2, 1, none⟩)) hA rfl rfl rfl (does_field SmB_fld_24_1 rfl rfl) ?_
  intro a hA
  refine seq_do hA rfl rfl rfl (does_load1 hS SmB_is1_22 rfl 0 rfl rfl) ?_
  intro a hA
  refine seq_do hA rfl rfl rfl (does_move rfl) ?_
  intro a hA
  have hi34 : 0 < ([d0, d1]).length := by first | (simp; done) | omega
  obtain ⟨b31, f32, hso33⟩ := Rd.addr (hS.rd 3 rfl) hi34
  refine seq_do (v := .pointer (some ⟨b31, f32 + 0, none⟩)) hA rfl rfl rfl (does_indexRow (k := 0) Tryz.underlying22 (by kernel_rfl) rfl rfl (by omega) hso33 (by omega)) ?_
  intro a hA
  refine seq_do (v := .int .u32 (((([d0, d1]).getD 0 0 : Nat) : Int))) hA rfl rfl rfl (does_loadRow (hS.rd 3 rfl) hso33 hi34 SmB_is1_66 rfl) ?_
  intro a hA
  refine seq_do (v := .int .u64 (((d0 : Nat) : Int))) hA rfl rfl rfl (does_convert rfl (ar_conv Tryz.underlying66 Tryz.underlying61 (show IntKind.u64.wrap ((d0 : Nat) : Int) = ((d0 : Nat) : Int) from c32_u64 (by omega)))) ?_
  intro a hA
  refine seq_do (v := .int .u64 (((x : Nat) : Int))) hA rfl rfl rfl (does_bin rfl rfl (ar_add (show IntKind.u64.wrap (((y : Nat) : Int) + ((d0 : Nat) : Int)) = ((x : Nat) : Int) from (in_u64 (by omega) (by omega)).trans (by omega)))) ?_
  intro a hA
  refine seq_do hA rfl rfl rfl (does_assign rfl) ?_
  intro a hA
  refine seq_end ?_
  refine hK30 _ _ ?_
  refine wp_region_lit ?_
  refine seq_do hA rfl rfl rfl (does_move rfl) ?_
  intro a hA
  refine seq_do (v := .int .i64 (-1)) hA rfl rfl rfl (does_bin rfl rfl (fun w => by kernel_rfl)) ?_
  intro a hA
  refine seq_do hA rfl rfl rfl (does_assign rfl) ?_
  intro a hA
  refine seq_end ?_
  refine hK27 _ _ ?_
  refine rounds_k (fun K35 hK35 => ?_)
  refine wp_seq_k (fun K36 hK36 => ?_)
  refine wp_seq_k (fun K37 hK37 => ?_)
  refine wp_region_lit ?_
  refine seq_do hA rfl rfl rfl (does_move rfl) ?_
  intro a hA
  refine seq_do (v := .bool false) hA rfl rfl rfl (does_bin rfl rfl (fun w => by kernel_rfl)) ?_
  intro a hA
  refine seq_end ?_
  refine hK37 _ _ ?_
  refine wp_cond_false (hA.ev rfl) ?_
  refine wp_exit ?_
  refine hK17 _ _ ?_
  refine wp_seq_k (fun K38 hK38 => ?_)
  refine wp_seq_k (fun K39 hK39 => ?_)
  refine wp_region_lit ?_
  refine seq_do (v := .pointer (some ⟨g2, 0, none⟩)) hA rfl rfl rfl (does_field SmB_fld_26_0 rfl rfl) ?_
  intro a hA
  refine seq_do (v := .pointer (some ⟨g2, 0, none⟩)) hA rfl rfl rfl (does_field SmB_fld_24_0 rfl rfl) ?_
  intro a hA
  refine seq_do hA rfl rfl rfl (does_load1 hS SmB_is1_4 rfl 0 rfl rfl) ?_
  intro a hA
  refine seq_end ?_
  refine hK39 _ _ ?_
  refine wp_cond_false (hA.ev rfl) ?_
  refine wp_skip ?_
  refine hK38 _ _ ?_
  refine wp_seq_k (fun K40 hK40 => ?_)
  refine wp_seq_k (fun K41 hK41 => ?_)
  refine wp_region_lit ?_
  refine seq_do hA rfl rfl rfl (does_move rfl) ?_
  intro a hA
  refine seq_do (v := .bool true) hA rfl rfl rfl (does_bin rfl rfl (fun w => (bin_geq w).trans (by rw [show (decide (9223372036854775808 ≤ ((x : Nat) : Int))) = true from (decide_eq_true (by omega))]))) ?_
  intro a hA
  refine seq_end ?_
  refine hK41 _ _ ?_
  refine wp_cond_true (hA.ev rfl) ?_
  refine wp_seq_k (fun K42 hK42 => ?_)
  refine wp_region_lit ?_
  refine seq_do hA rfl rfl rfl (does_assign rfl) ?_
  intro a hA
  refine seq_do hA rfl rfl rfl (does_assign rfl) ?_
  intro a hA
  refine seq_end ?_
  refine hK42 _ _ ?_
  refine wp_ret ?_
  refine hret _ _ ?_
  refine ends (v := .tuple #[.int .i64 0, .int .i64 4]) hA rfl (.cons (res_tmp rfl) (.cons (res_tmp rfl) .nil)) rfl ?_
  exact ⟨rfl, hS.bel⟩
theorem rsmall2fS_any {w : World} {d0 d1 y x : Nat} (h0 : d0 < 4294967296) (h1 : d1 < 4294967296) (hy : d1 * 4294967296 = y) (hx : y + d0 = x) {a1 a2 a3 a4 : Option Addr} {ac1 ac2 ac3 ac4 : Nat} (ha : Nm w ((⟨false, [d0, d1], [1], false, [], [1]⟩ : Q6)) a1 ac1 a2 ac2 a3 ac3 a4 ac4) (hs : soundQ (⟨false, [d0, d1], [1], false, [], [1]⟩ : Q6) = true) (hw : wholeQ (⟨false, [d0, d1], [1], false, [], [1]⟩ : Q6) = true) (hk : (words (x)) = [d0, d1]) (hz : bl (x) ≤ 64) (hc : x ≤ 9223372036854775807) : Calls Tryz.prog 15 #[numV (⟨false, [d0, d1], [1], false, [], [1]⟩ : Q6) a1 ac1 a2 ac2 a3 ac3 a4 ac4] w fun e w' => e = .returned (.tuple #[.int .i64 (sgn false (x)), .int .i64 0]) ∧ Below w.heap.size w w' := by
  have hS : St w w [] [(a4, [1]), (a3, []), (a2, [1]), (a1, [d0, d1])] [] := ((((St.start w).addR ha.s1.rd).addR ha.s2.rd).addR ha.s3.rd).addR ha.s4.rd
  refine walk_of (l := [(0, .agg #[.bool false, .slice a1 2 ac1, .slice a2 1 ac2, .bool false, .slice a3 0 ac3, .slice a4 1 ac4])]) Tryz.func15 rfl Tryz.ntmps15 rfl rfl ?_
  intro Q hret hnorm hP a hA
  refine wp_seq_k (fun K1 hK1 => ?_)
  refine wp_region_lit ?_
  refine seq_new (vs := [.bool false, .slice a1 2 ac1, .slice a2 1 ac2, .bool false, .slice a3 0 ac3, .slice a4 1 ac4]) (t := 26) hA hS rfl rfl rfl (fun g => .pointer (some ⟨g, 0, none⟩)) (does_box rfl rfl) rfl ?_
  intro g2 w3 hS a hA
  refine seq_do hA rfl rfl rfl (does_assign rfl) ?_
  intro a hA
  refine seq_do hA rfl rfl rfl (does_assign rfl) ?_
  intro a hA
  refine seq_end ?_
  refine hK1 _ _ ?_
  refine wp_seq_k (fun K4 hK4 => ?_)
  refine wp_seq_k (fun K5 hK5 => ?_)
  refine wp_region_lit ?_
  refine seq_do (v := .agg #[.bool false, .slice a1 2 ac1, .slice a2 1 ac2, .bool false, .slice a3 0 ac3, .slice a4 1 ac4]) hA rfl rfl rfl (does_loadS hS SmB_isS_26 rfl 0 rfl (cs := [.bool false, .slice a1 2 ac1, .slice a2 1 ac2, .bool false, .slice a3 0 ac3, .slice a4 1 ac4]) rfl rfl) ?_
  intro a hA
  refine seq_call hA rfl rfl rfl (enters_func  rfl rfl (fun w => by kernel_rfl)) (rsoundQ_any (show Nm _ _ a1 ac1 a2 ac2 a3 ac3 a4 ac4 from ⟨⟨(hS.rd 3 rfl), ha.s1.nil, ha.s1.cap⟩, ⟨(hS.rd 2 rfl), ha.s2.nil, ha.s2.cap⟩, ⟨(hS.rd 1 rfl), ha.s3.nil, ha.s3.cap⟩, ⟨(hS.rd 0 rfl), ha.s4.nil, ha.s4.cap⟩⟩) ⟨Nat.le_of_ble_eq_true rfl, Nat.le_of_ble_eq_true rfl, Nat.le_of_ble_eq_true rfl, Nat.le_of_ble_eq_true rfl⟩ hs) ?_
  rintro _ w7 ⟨rfl, hb6⟩
  replace hS := hS.call hb6
  refine ⟨_, rfl, ?_⟩
  intro a hA
  refine seq_do (v := .bool false) hA rfl rfl rfl (does_un rfl un_not) ?_
  intro a hA
  refine seq_end ?_
  refine hK5 _ _ ?_
  refine wp_cond_false (hA.ev rfl) ?_
  refine wp_skip ?_
  refine hK4 _ _ ?_
  refine wp_seq_k (fun K8 hK8 => ?_)
  refine wp_seq_k (fun K9 hK9 => ?_)
  refine wp_region_lit ?_
  refine seq_do (v := .agg #[.bool false, .slice a1 2 ac1, .slice a2 1 ac2, .bool false, .slice a3 0 ac3, .slice a4 1 ac4]) hA rfl rfl rfl (does_loadS hS SmB_isS_26 rfl 0 rfl (cs := [.bool false, .slice a1 2 ac1, .slice a2 1 ac2, .bool false, .slice a3 0 ac3, .slice a4 1 ac4]) rfl rfl) ?_
  intro a hA
  refine seq_call hA rfl rfl rfl (enters_func  rfl rfl (fun w => by kernel_rfl)) (rwholeQ_any (show Nm _ _ a1 ac1 a2 ac2 a3 ac3 a4 ac4 from ⟨⟨(hS.rd 3 rfl), ha.s1.nil, ha.s1.cap⟩, ⟨(hS.rd 2 rfl), ha.s2.nil, ha.s2.cap⟩, ⟨(hS.rd 1 rfl), ha.s3.nil, ha.s3.cap⟩, ⟨(hS.rd 0 rfl), ha.s4.nil, ha.s4.cap⟩⟩) ⟨Nat.le_of_ble_eq_true rfl, Nat.le_of_ble_eq_true rfl, Nat.le_of_ble_eq_true rfl, Nat.le_of_ble_eq_true rfl⟩ hw) ?_
  rintro _ w11 ⟨rfl, hb10⟩
  replace hS := hS.call hb10
  refine ⟨_, rfl, ?_⟩
  intro a hA
  refine seq_do (v := .bool false) hA rfl rfl rfl (does_un rfl un_not) ?_
  intro a hA
  refine seq_end ?_
  refine hK9 _ _ ?_
  refine wp_cond_false (hA.ev rfl) ?_
  refine wp_skip ?_
  refine hK8 _ _ ?_
  refine wp_seq_k (fun K12 hK12 => ?_)
  refine wp_seq_k (fun K13 hK13 => ?_)
  refine wp_region_lit ?_
  refine seq_do (v := .pointer (some ⟨g2, 0, none⟩)) hA rfl rfl rfl (does_field SmB_fld_26_0 rfl rfl) ?_
  intro a hA
  refine seq_do (v := .pointer (some ⟨g2, 1, none⟩)) hA rfl rfl rfl (does_field SmB_fld_24_1 rfl rfl) ?_
  intro a hA
  refine seq_do hA rfl rfl rfl (does_load1 hS SmB_is1_22 rfl 0 rfl rfl) ?_
  intro a hA
  refine seq_call hA rfl rfl rfl (enters_func  rfl rfl (fun w => by kernel_rfl)) ((show Calls Tryz.prog 53 #[.slice a1 2 ac1] _ (fun e w' => e = .returned (.int .i64 ((bl (x) : Nat) : Int)) ∧ w' = _) from (by have h9 := size_any (x := x) ac1 (show Rd _ a1 (words (x)) from (by rw [hk]; exact (hS.rd 3 rfl))) (by rw [hk]; exact Nat.le_of_ble_eq_true rfl); rw [hk] at h9; exact h9))) ?_
  rintro _ w15 ⟨rfl, hb14⟩
  replace hb14 := below_eq hb14
  replace hS := hS.call hb14
  refine ⟨_, rfl, ?_⟩
  intro a hA
  refine seq_do (v := .bool false) hA rfl rfl rfl (does_bin rfl rfl (fun w => (bin_gtr w).trans (by rw [show (decide (64 < ((bl (x) : Nat) : Int))) = false from (decide_eq_false (by omega))]))) ?_
  intro a hA
  refine seq_end ?_
  refine hK13 _ _ ?_
  refine wp_cond_false (hA.ev rfl) ?_
  refine wp_skip ?_
  refine hK12 _ _ ?_
  refine wp_seq_k (fun K16 hK16 => ?_)
  refine wp_region_lit ?_
  refine seq_do hA rfl rfl rfl (does_assign rfl) ?_
  intro a hA
  refine seq_end ?_
  refine hK16 _ _ ?_
  refine wp_seq_k (fun K17 hK17 => ?_)
  refine wp_seq_k (fun K18 hK18 => ?_)
  refine wp_region_lit ?_
  refine seq_do (v := .pointer (some ⟨g2, 0, none⟩)) hA rfl rfl rfl (does_field SmB_fld_26_0 rfl rfl) ?_
  intro a hA
  refine seq_do (v := .pointer (some ⟨g2, 1, none⟩)) hA rfl rfl rfl (does_field SmB_fld_24_1 rfl rfl) ?_
  intro a hA
  refine seq_do hA rfl rfl rfl (does_load1 hS SmB_is1_22 rfl 0 rfl rfl) ?_
  intro a hA
  refine seq_do (v := .int .i64 2) hA rfl rfl rfl (does_len Tryz.underlying22 rfl) ?_
  intro a hA
  refine seq_do (v := .int .i64 1) hA rfl rfl rfl (does_bin rfl rfl (fun w => by kernel_rfl)) ?_
  intro a hA
  refine seq_do hA rfl rfl rfl (does_assign rfl) ?_
  intro a hA
  refine seq_end ?_
  refine hK18 _ _ ?_
  refine wp_block ?_
  refine wp_loop_rounds 12 ?_
  refine rounds_k (fun K19 hK19 => ?_)
  refine wp_seq_k (fun K20 hK20 => ?_)
  refine wp_seq_k (fun K21 hK21 => ?_)
  refine wp_region_lit ?_
  refine seq_do hA rfl rfl rfl (does_move rfl) ?_
  intro a hA
  refine seq_do (v := .bool true) hA rfl rfl rfl (does_bin rfl rfl (fun w => by kernel_rfl)) ?_
  intro a hA
  refine seq_end ?_
  refine hK21 _ _ ?_
  refine wp_cond_true (hA.ev rfl) ?_
  refine wp_skip ?_
  refine hK20 _ _ ?_
  refine wp_seq_k (fun K22 hK22 => ?_)
  refine wp_block ?_
  refine wp_region_lit ?_
  refine seq_do hA rfl rfl rfl (does_move rfl) ?_
  intro a hA
  refine seq_do (v := .int .u64 0) hA rfl rfl rfl (does_bin rfl rfl (ar_mul (by decide))) ?_
  intro a hA
  refine seq_do (v := .pointer (some ⟨g2, 0, none⟩)) hA rfl rfl rfl (does_field SmB_fld_26_0 rfl rfl) ?_
  intro a hA
  refine seq_do (v := .pointer (some ⟨g2, 1, none⟩)) hA rfl rfl rfl (does_field SmB_fld_24_1 rfl rfl) ?_
  intro a hA
  refine seq_do hA rfl rfl rfl (does_load1 hS SmB_is1_22 rfl 0 rfl rfl) ?_
  intro a hA
  refine seq_do hA rfl rfl rfl (does_move rfl) ?_
  intro a hA
  have hi26 : 1 < ([d0, d1]).length := by first | (simp; done) | omega
  obtain ⟨b23, f24, hso25⟩ := Rd.addr (hS.rd 3 rfl) hi26
  refine seq_do (v := .pointer (some ⟨b23, f24 + 1, none⟩)) hA rfl rfl rfl (does_indexRow (k := 1) Tryz.underlying22 (by kernel_rfl) rfl rfl (by omega) hso25 (by omega)) ?_
  intro a hA
  refine seq_do (v := .int .u32 (((([d0, d1]).getD 1 0 : Nat) : Int))) hA rfl rfl rfl (does_loadRow (hS.rd 3 rfl) hso25 hi26 SmB_is1_66 rfl) ?_
  intro a hA
  refine seq_do (v := .int .u64 (((d1 : Nat) : Int))) hA rfl rfl rfl (does_convert rfl (ar_conv Tryz.underlying66 Tryz.underlying61 (show IntKind.u64.wrap ((d1 : Nat) : Int) = ((d1 : Nat) : Int) from c32_u64 (by omega)))) ?_
  intro a hA
  refine seq_do (v := .int .u64 (((d1 : Nat) : Int))) hA rfl rfl rfl (does_bin rfl rfl (ar_add (show IntKind.u64.wrap (0 + ((d1 : Nat) : Int)) = ((d1 : Nat) : Int) from (in_u64 (by omega) (by omega)).trans (by omega)))) ?_
  intro a hA
  refine seq_do hA rfl rfl rfl (does_assign rfl) ?_
  intro a hA
  refine seq_end ?_
  refine hK22 _ _ ?_
  refine wp_region_lit ?_
  refine seq_do hA rfl rfl rfl (does_move rfl) ?_
  intro a hA
  refine seq_do (v := .int .i64 0) hA rfl rfl rfl (does_bin rfl rfl (fun w => by kernel_rfl)) ?_
  intro a hA
  refine seq_do hA rfl rfl rfl (does_assign rfl) ?_
  intro a hA
  refine seq_end ?_
  refine hK19 _ _ ?_
  refine rounds_k (fun K27 hK27 => ?_)
  refine wp_seq_k (fun K28 hK28 => ?_)
  refine wp_seq_k (fun K29 hK29 => ?_)
  refine wp_region_lit ?_
  refine seq_do hA rfl rfl rfl (does_move rfl) ?_
  intro a hA
  refine seq_do (v := .bool true) hA rfl rfl rfl (does_bin rfl rfl (fun w => by kernel_rfl)) ?_
  intro a hA
  refine seq_end ?_
  refine hK29 _ _ ?_
  refine wp_cond_true (hA.ev rfl) ?_
  refine wp_skip ?_
  refine hK28 _ _ ?_
  refine wp_seq_k (fun K30 hK30 => ?_)
  refine wp_block ?_
  refine wp_region_lit ?_
  refine seq_do hA rfl rfl rfl (does_move rfl) ?_
  intro a hA
  refine seq_do (v := .int .u64 (((y : Nat) : Int))) hA rfl rfl rfl (does_bin rfl rfl (ar_mul (show IntKind.u64.wrap (((d1 : Nat) : Int) * 4294967296) = ((y : Nat) : Int) from (in_u64 (by omega) (by omega)).trans (by omega)))) ?_
  intro a hA
  refine seq_do (v := .pointer (some ⟨g2, 0, none⟩)) hA rfl rfl rfl (does_field SmB_fld_26_0 rfl rfl) ?_
  intro a hA
  refine seq_do (v := .pointer (some ⟨g2, 1, none⟩)) hA rfl rfl rfl (does_field SmB_fld_24_1 rfl rfl) ?_
  intro a hA
  refine seq_do hA rfl rfl rfl (does_load1 hS SmB_is1_22 rfl 0 rfl rfl) ?_
  intro a hA
  refine seq_do hA rfl rfl rfl (does_move rfl) ?_
  intro a hA
  have hi34 : 0 < ([d0, d1]).length := by first | (simp; done) | omega
  obtain ⟨b31, f32, hso33⟩ := Rd.addr (hS.rd 3 rfl) hi34
  refine seq_do (v := .pointer (some ⟨b31, f32 + 0, none⟩)) hA rfl rfl rfl (does_indexRow (k := 0) Tryz.underlying22 (by kernel_rfl) rfl rfl (by omega) hso33 (by omega)) ?_
  intro a hA
  refine seq_do (v := .int .u32 (((([d0, d1]).getD 0 0 : Nat) : Int))) hA rfl rfl rfl (does_loadRow (hS.rd 3 rfl) hso33 hi34 SmB_is1_66 rfl) ?_
  intro a hA
  refine seq_do (v := .int .u64 (((d0 : Nat) : Int))) hA rfl rfl rfl (does_convert rfl (ar_conv Tryz.underlying66 Tryz.underlying61 (show IntKind.u64.wrap ((d0 : Nat) : Int) = ((d0 : Nat) : Int) from c32_u64 (by omega)))) ?_
  intro a hA
  refine seq_do (v := .int .u64 (((x : Nat) : Int))) hA rfl rfl rfl (does_bin rfl rfl (ar_add (show IntKind.u64.wrap (((y : Nat) : Int) + ((d0 : Nat) : Int)) = ((x : Nat) : Int) from (in_u64 (by omega) (by omega)).trans (by omega)))) ?_
  intro a hA
  refine seq_do hA rfl rfl rfl (does_assign rfl) ?_
  intro a hA
  refine seq_end ?_
  refine hK30 _ _ ?_
  refine wp_region_lit ?_
  refine seq_do hA rfl rfl rfl (does_move rfl) ?_
  intro a hA
  refine seq_do (v := .int .i64 (-1)) hA rfl rfl rfl (does_bin rfl rfl (fun w => by kernel_rfl)) ?_
  intro a hA
  refine seq_do hA rfl rfl rfl (does_assign rfl) ?_
  intro a hA
  refine seq_end ?_
  refine hK27 _ _ ?_
  refine rounds_k (fun K35 hK35 => ?_)
  refine wp_seq_k (fun K36 hK36 => ?_)
  refine wp_seq_k (fun K37 hK37 => ?_)
  refine wp_region_lit ?_
  refine seq_do hA rfl rfl rfl (does_move rfl) ?_
  intro a hA
  refine seq_do (v := .bool false) hA rfl rfl rfl (does_bin rfl rfl (fun w => by kernel_rfl)) ?_
  intro a hA
  refine seq_end ?_
  refine hK37 _ _ ?_
  refine wp_cond_false (hA.ev rfl) ?_
  refine wp_exit ?_
  refine hK17 _ _ ?_
  refine wp_seq_k (fun K38 hK38 => ?_)
  refine wp_seq_k (fun K39 hK39 => ?_)
  refine wp_region_lit ?_
  refine seq_do (v := .pointer (some ⟨g2, 0, none⟩)) hA rfl rfl rfl (does_field SmB_fld_26_0 rfl rfl) ?_
  intro a hA
  refine seq_do (v := .pointer (some ⟨g2, 0, none⟩)) hA rfl rfl rfl (does_field SmB_fld_24_0 rfl rfl) ?_
  intro a hA
  refine seq_do hA rfl rfl rfl (does_load1 hS SmB_is1_4 rfl 0 rfl rfl) ?_
  intro a hA
  refine seq_end ?_
  refine hK39 _ _ ?_
  refine wp_cond_false (hA.ev rfl) ?_
  refine wp_skip ?_
  refine hK38 _ _ ?_
  refine wp_seq_k (fun K40 hK40 => ?_)
  refine wp_seq_k (fun K41 hK41 => ?_)
  refine wp_region_lit ?_
  refine seq_do hA rfl rfl rfl (does_move rfl) ?_
  intro a hA
  refine seq_do (v := .bool false) hA rfl rfl rfl (does_bin rfl rfl (fun w => (bin_geq w).trans (by rw [show (decide (9223372036854775808 ≤ ((x : Nat) : Int))) = false from (decide_eq_false (by omega))]))) ?_
  intro a hA
  refine seq_end ?_
  refine hK41 _ _ ?_
  refine wp_cond_false (hA.ev rfl) ?_
  refine wp_skip ?_
  refine hK40 _ _ ?_
  refine wp_seq_k (fun K42 hK42 => ?_)
  refine wp_region_lit ?_
  refine seq_do hA rfl rfl rfl (does_move rfl) ?_
  intro a hA
  refine seq_do (v := .int .i64 (((x : Nat) : Int))) hA rfl rfl rfl (does_convert rfl (ar_conv Tryz.underlying61 Tryz.underlying3 (in_i64 (by omega) (by omega)))) ?_
  intro a hA
  refine seq_do hA rfl rfl rfl (does_assign rfl) ?_
  intro a hA
  refine seq_do hA rfl rfl rfl (does_assign rfl) ?_
  intro a hA
  refine seq_end ?_
  refine hK42 _ _ ?_
  refine wp_ret ?_
  refine hret _ _ ?_
  refine ends (v := .tuple #[.int .i64 (((x : Nat) : Int)), .int .i64 0]) hA rfl (.cons (res_tmp rfl) (.cons (res_tmp rfl) .nil)) rfl ?_
  exact ⟨by rw [show (((x : Nat) : Int)) = sgn false (x) from by simp only [sgn]; first | rfl | omega | (simp; omega)], hS.bel⟩
theorem rsmall2tL_any {w : World} {d0 d1 y x : Nat} (h0 : d0 < 4294967296) (h1 : d1 < 4294967296) (hy : d1 * 4294967296 = y) (hx : y + d0 = x) {a1 a2 a3 a4 : Option Addr} {ac1 ac2 ac3 ac4 : Nat} (ha : Nm w ((⟨true, [d0, d1], [1], false, [], [1]⟩ : Q6)) a1 ac1 a2 ac2 a3 ac3 a4 ac4) (hs : soundQ (⟨true, [d0, d1], [1], false, [], [1]⟩ : Q6) = true) (hw : wholeQ (⟨true, [d0, d1], [1], false, [], [1]⟩ : Q6) = true) (hk : (words (x)) = [d0, d1]) (hz : bl (x) ≤ 64) (hc : ¬ x ≤ 9223372036854775808) (hp : 1 ≤ x) : Calls Tryz.prog 15 #[numV (⟨true, [d0, d1], [1], false, [], [1]⟩ : Q6) a1 ac1 a2 ac2 a3 ac3 a4 ac4] w fun e w' => e = .returned (.tuple #[.int .i64 0, .int .i64 4]) ∧ Below w.heap.size w w' := by
  have hS : St w w [] [(a4, [1]), (a3, []), (a2, [1]), (a1, [d0, d1])] [] := ((((St.start w).addR ha.s1.rd).addR ha.s2.rd).addR ha.s3.rd).addR ha.s4.rd
  refine walk_of (l := [(0, .agg #[.bool true, .slice a1 2 ac1, .slice a2 1 ac2, .bool false, .slice a3 0 ac3, .slice a4 1 ac4])]) Tryz.func15 rfl Tryz.ntmps15 rfl rfl ?_
  intro Q hret hnorm hP a hA
  refine wp_seq_k (fun K1 hK1 => ?_)
  refine wp_region_lit ?_
  refine seq_new (vs := [.bool true, .slice a1 2 ac1, .slice a2 1 ac2, .bool false, .slice a3 0 ac3, .slice a4 1 ac4]) (t := 26) hA hS rfl rfl rfl (fun g => .pointer (some ⟨g, 0, none⟩)) (does_box rfl rfl) rfl ?_
  intro g2 w3 hS a hA
  refine seq_do hA rfl rfl rfl (does_assign rfl) ?_
  intro a hA
  refine seq_do hA rfl rfl rfl (does_assign rfl) ?_
  intro a hA
  refine seq_end ?_
  refine hK1 _ _ ?_
  refine wp_seq_k (fun K4 hK4 => ?_)
  refine wp_seq_k (fun K5 hK5 => ?_)
  refine wp_region_lit ?_
  refine seq_do (v := .agg #[.bool true, .slice a1 2 ac1, .slice a2 1 ac2, .bool false, .slice a3 0 ac3, .slice a4 1 ac4]) hA rfl rfl rfl (does_loadS hS SmB_isS_26 rfl 0 rfl (cs := [.bool true, .slice a1 2 ac1, .slice a2 1 ac2, .bool false, .slice a3 0 ac3, .slice a4 1 ac4]) rfl rfl) ?_
  intro a hA
  refine seq_call hA rfl rfl rfl (enters_func  rfl rfl (fun w => by kernel_rfl)) (rsoundQ_any (show Nm _ _ a1 ac1 a2 ac2 a3 ac3 a4 ac4 from ⟨⟨(hS.rd 3 rfl), ha.s1.nil, ha.s1.cap⟩, ⟨(hS.rd 2 rfl), ha.s2.nil, ha.s2.cap⟩, ⟨(hS.rd 1 rfl), ha.s3.nil, ha.s3.cap⟩, ⟨(hS.rd 0 rfl), ha.s4.nil, ha.s4.cap⟩⟩) ⟨Nat.le_of_ble_eq_true rfl, Nat.le_of_ble_eq_true rfl, Nat.le_of_ble_eq_true rfl, Nat.le_of_ble_eq_true rfl⟩ hs) ?_
  rintro _ w7 ⟨rfl, hb6⟩
  replace hS := hS.call hb6
  refine ⟨_, rfl, ?_⟩
  intro a hA
  refine seq_do (v := .bool false) hA rfl rfl rfl (does_un rfl un_not) ?_
  intro a hA
  refine seq_end ?_
  refine hK5 _ _ ?_
  refine wp_cond_false (hA.ev rfl) ?_
  refine wp_skip ?_
  refine hK4 _ _ ?_
  refine wp_seq_k (fun K8 hK8 => ?_)
  refine wp_seq_k (fun K9 hK9 => ?_)
  refine wp_region_lit ?_
  refine seq_do (v := .agg #[.bool true, .slice a1 2 ac1, .slice a2 1 ac2, .bool false, .slice a3 0 ac3, .slice a4 1 ac4]) hA rfl rfl rfl (does_loadS hS SmB_isS_26 rfl 0 rfl (cs := [.bool true, .slice a1 2 ac1, .slice a2 1 ac2, .bool false, .slice a3 0 ac3, .slice a4 1 ac4]) rfl rfl) ?_
  intro a hA
  refine seq_call hA rfl rfl rfl (enters_func  rfl rfl (fun w => by kernel_rfl)) (rwholeQ_any (show Nm _ _ a1 ac1 a2 ac2 a3 ac3 a4 ac4 from ⟨⟨(hS.rd 3 rfl), ha.s1.nil, ha.s1.cap⟩, ⟨(hS.rd 2 rfl), ha.s2.nil, ha.s2.cap⟩, ⟨(hS.rd 1 rfl), ha.s3.nil, ha.s3.cap⟩, ⟨(hS.rd 0 rfl), ha.s4.nil, ha.s4.cap⟩⟩) ⟨Nat.le_of_ble_eq_true rfl, Nat.le_of_ble_eq_true rfl, Nat.le_of_ble_eq_true rfl, Nat.le_of_ble_eq_true rfl⟩ hw) ?_
  rintro _ w11 ⟨rfl, hb10⟩
  replace hS := hS.call hb10
  refine ⟨_, rfl, ?_⟩
  intro a hA
  refine seq_do (v := .bool false) hA rfl rfl rfl (does_un rfl un_not) ?_
  intro a hA
  refine seq_end ?_
  refine hK9 _ _ ?_
  refine wp_cond_false (hA.ev rfl) ?_
  refine wp_skip ?_
  refine hK8 _ _ ?_
  refine wp_seq_k (fun K12 hK12 => ?_)
  refine wp_seq_k (fun K13 hK13 => ?_)
  refine wp_region_lit ?_
  refine seq_do (v := .pointer (some ⟨g2, 0, none⟩)) hA rfl rfl rfl (does_field SmB_fld_26_0 rfl rfl) ?_
  intro a hA
  refine seq_do (v := .pointer (some ⟨g2, 1, none⟩)) hA rfl rfl rfl (does_field SmB_fld_24_1 rfl rfl) ?_
  intro a hA
  refine seq_do hA rfl rfl rfl (does_load1 hS SmB_is1_22 rfl 0 rfl rfl) ?_
  intro a hA
  refine seq_call hA rfl rfl rfl (enters_func  rfl rfl (fun w => by kernel_rfl)) ((show Calls Tryz.prog 53 #[.slice a1 2 ac1] _ (fun e w' => e = .returned (.int .i64 ((bl (x) : Nat) : Int)) ∧ w' = _) from (by have h9 := size_any (x := x) ac1 (show Rd _ a1 (words (x)) from (by rw [hk]; exact (hS.rd 3 rfl))) (by rw [hk]; exact Nat.le_of_ble_eq_true rfl); rw [hk] at h9; exact h9))) ?_
  rintro _ w15 ⟨rfl, hb14⟩
  replace hb14 := below_eq hb14
  replace hS := hS.call hb14
  refine ⟨_, rfl, ?_⟩
  intro a hA
  refine seq_do (v := .bool false) hA rfl rfl rfl (does_bin rfl rfl (fun w => (bin_gtr w).trans (by rw [show (decide (64 < ((bl (x) : Nat) : Int))) = false from (decide_eq_false (by omega))]))) ?_
  intro a hA
  refine seq_end ?_
  refine hK13 _ _ ?_
  refine wp_cond_false (hA.ev rfl) ?_
  refine wp_skip ?_
  refine hK12 _ _ ?_
  refine wp_seq_k (fun K16 hK16 => ?_)
  refine wp_region_lit ?_
  refine seq_do hA rfl rfl rfl (does_assign rfl) ?_
  intro a hA
  refine seq_end ?_
  refine hK16 _ _ ?_
  refine wp_seq_k (fun K17 hK17 => ?_)
  refine wp_seq_k (fun K18 hK18 => ?_)
  refine wp_region_lit ?_
  refine seq_do (v := .pointer (some ⟨g2, 0, none⟩)) hA rfl rfl rfl (does_field SmB_fld_26_0 rfl rfl) ?_
  intro a hA
  refine seq_do (v := .pointer (some ⟨g2, 1, none⟩)) hA rfl rfl rfl (does_field SmB_fld_24_1 rfl rfl) ?_
  intro a hA
  refine seq_do hA rfl rfl rfl (does_load1 hS SmB_is1_22 rfl 0 rfl rfl) ?_
  intro a hA
  refine seq_do (v := .int .i64 2) hA rfl rfl rfl (does_len Tryz.underlying22 rfl) ?_
  intro a hA
  refine seq_do (v := .int .i64 1) hA rfl rfl rfl (does_bin rfl rfl (fun w => by kernel_rfl)) ?_
  intro a hA
  refine seq_do hA rfl rfl rfl (does_assign rfl) ?_
  intro a hA
  refine seq_end ?_
  refine hK18 _ _ ?_
  refine wp_block ?_
  refine wp_loop_rounds 12 ?_
  refine rounds_k (fun K19 hK19 => ?_)
  refine wp_seq_k (fun K20 hK20 => ?_)
  refine wp_seq_k (fun K21 hK21 => ?_)
  refine wp_region_lit ?_
  refine seq_do hA rfl rfl rfl (does_move rfl) ?_
  intro a hA
  refine seq_do (v := .bool true) hA rfl rfl rfl (does_bin rfl rfl (fun w => by kernel_rfl)) ?_
  intro a hA
  refine seq_end ?_
  refine hK21 _ _ ?_
  refine wp_cond_true (hA.ev rfl) ?_
  refine wp_skip ?_
  refine hK20 _ _ ?_
  refine wp_seq_k (fun K22 hK22 => ?_)
  refine wp_block ?_
  refine wp_region_lit ?_
  refine seq_do hA rfl rfl rfl (does_move rfl) ?_
  intro a hA
  refine seq_do (v := .int .u64 0) hA rfl rfl rfl (does_bin rfl rfl (ar_mul (by decide))) ?_
  intro a hA
  refine seq_do (v := .pointer (some ⟨g2, 0, none⟩)) hA rfl rfl rfl (does_field SmB_fld_26_0 rfl rfl) ?_
  intro a hA
  refine seq_do (v := .pointer (some ⟨g2, 1, none⟩)) hA rfl rfl rfl (does_field SmB_fld_24_1 rfl rfl) ?_
  intro a hA
  refine seq_do hA rfl rfl rfl (does_load1 hS SmB_is1_22 rfl 0 rfl rfl) ?_
  intro a hA
  refine seq_do hA rfl rfl rfl (does_move rfl) ?_
  intro a hA
  have hi26 : 1 < ([d0, d1]).length := by first | (simp; done) | omega
  obtain ⟨b23, f24, hso25⟩ := Rd.addr (hS.rd 3 rfl) hi26
  refine seq_do (v := .pointer (some ⟨b23, f24 + 1, none⟩)) hA rfl rfl rfl (does_indexRow (k := 1) Tryz.underlying22 (by kernel_rfl) rfl rfl (by omega) hso25 (by omega)) ?_
  intro a hA
  refine seq_do (v := .int .u32 (((([d0, d1]).getD 1 0 : Nat) : Int))) hA rfl rfl rfl (does_loadRow (hS.rd 3 rfl) hso25 hi26 SmB_is1_66 rfl) ?_
  intro a hA
  refine seq_do (v := .int .u64 (((d1 : Nat) : Int))) hA rfl rfl rfl (does_convert rfl (ar_conv Tryz.underlying66 Tryz.underlying61 (show IntKind.u64.wrap ((d1 : Nat) : Int) = ((d1 : Nat) : Int) from c32_u64 (by omega)))) ?_
  intro a hA
  refine seq_do (v := .int .u64 (((d1 : Nat) : Int))) hA rfl rfl rfl (does_bin rfl rfl (ar_add (show IntKind.u64.wrap (0 + ((d1 : Nat) : Int)) = ((d1 : Nat) : Int) from (in_u64 (by omega) (by omega)).trans (by omega)))) ?_
  intro a hA
  refine seq_do hA rfl rfl rfl (does_assign rfl) ?_
  intro a hA
  refine seq_end ?_
  refine hK22 _ _ ?_
  refine wp_region_lit ?_
  refine seq_do hA rfl rfl rfl (does_move rfl) ?_
  intro a hA
  refine seq_do (v := .int .i64 0) hA rfl rfl rfl (does_bin rfl rfl (fun w => by kernel_rfl)) ?_
  intro a hA
  refine seq_do hA rfl rfl rfl (does_assign rfl) ?_
  intro a hA
  refine seq_end ?_
  refine hK19 _ _ ?_
  refine rounds_k (fun K27 hK27 => ?_)
  refine wp_seq_k (fun K28 hK28 => ?_)
  refine wp_seq_k (fun K29 hK29 => ?_)
  refine wp_region_lit ?_
  refine seq_do hA rfl rfl rfl (does_move rfl) ?_
  intro a hA
  refine seq_do (v := .bool true) hA rfl rfl rfl (does_bin rfl rfl (fun w => by kernel_rfl)) ?_
  intro a hA
  refine seq_end ?_
  refine hK29 _ _ ?_
  refine wp_cond_true (hA.ev rfl) ?_
  refine wp_skip ?_
  refine hK28 _ _ ?_
  refine wp_seq_k (fun K30 hK30 => ?_)
  refine wp_block ?_
  refine wp_region_lit ?_
  refine seq_do hA rfl rfl rfl (does_move rfl) ?_
  intro a hA
  refine seq_do (v := .int .u64 (((y : Nat) : Int))) hA rfl rfl rfl (does_bin rfl rfl (ar_mul (show IntKind.u64.wrap (((d1 : Nat) : Int) * 4294967296) = ((y : Nat) : Int) from (in_u64 (by omega) (by omega)).trans (by omega)))) ?_
  intro a hA
  refine seq_do (v := .pointer (some ⟨g2, 0, none⟩)) hA rfl rfl rfl (does_field SmB_fld_26_0 rfl rfl) ?_
  intro a hA
  refine seq_do (v := .pointer (some ⟨g2, 1, none⟩)) hA rfl rfl rfl (does_field SmB_fld_24_1 rfl rfl) ?_
  intro a hA
  refine seq_do hA rfl rfl rfl (does_load1 hS SmB_is1_22 rfl 0 rfl rfl) ?_
  intro a hA
  refine seq_do hA rfl rfl rfl (does_move rfl) ?_
  intro a hA
  have hi34 : 0 < ([d0, d1]).length := by first | (simp; done) | omega
  obtain ⟨b31, f32, hso33⟩ := Rd.addr (hS.rd 3 rfl) hi34
  refine seq_do (v := .pointer (some ⟨b31, f32 + 0, none⟩)) hA rfl rfl rfl (does_indexRow (k := 0) Tryz.underlying22 (by kernel_rfl) rfl rfl (by omega) hso33 (by omega)) ?_
  intro a hA
  refine seq_do (v := .int .u32 (((([d0, d1]).getD 0 0 : Nat) : Int))) hA rfl rfl rfl (does_loadRow (hS.rd 3 rfl) hso33 hi34 SmB_is1_66 rfl) ?_
  intro a hA
  refine seq_do (v := .int .u64 (((d0 : Nat) : Int))) hA rfl rfl rfl (does_convert rfl (ar_conv Tryz.underlying66 Tryz.underlying61 (show IntKind.u64.wrap ((d0 : Nat) : Int) = ((d0 : Nat) : Int) from c32_u64 (by omega)))) ?_
  intro a hA
  refine seq_do (v := .int .u64 (((x : Nat) : Int))) hA rfl rfl rfl (does_bin rfl rfl (ar_add (show IntKind.u64.wrap (((y : Nat) : Int) + ((d0 : Nat) : Int)) = ((x : Nat) : Int) from (in_u64 (by omega) (by omega)).trans (by omega)))) ?_
  intro a hA
  refine seq_do hA rfl rfl rfl (does_assign rfl) ?_
  intro a hA
  refine seq_end ?_
  refine hK30 _ _ ?_
  refine wp_region_lit ?_
  refine seq_do hA rfl rfl rfl (does_move rfl) ?_
  intro a hA
  refine seq_do (v := .int .i64 (-1)) hA rfl rfl rfl (does_bin rfl rfl (fun w => by kernel_rfl)) ?_
  intro a hA
  refine seq_do hA rfl rfl rfl (does_assign rfl) ?_
  intro a hA
  refine seq_end ?_
  refine hK27 _ _ ?_
  refine rounds_k (fun K35 hK35 => ?_)
  refine wp_seq_k (fun K36 hK36 => ?_)
  refine wp_seq_k (fun K37 hK37 => ?_)
  refine wp_region_lit ?_
  refine seq_do hA rfl rfl rfl (does_move rfl) ?_
  intro a hA
  refine seq_do (v := .bool false) hA rfl rfl rfl (does_bin rfl rfl (fun w => by kernel_rfl)) ?_
  intro a hA
  refine seq_end ?_
  refine hK37 _ _ ?_
  refine wp_cond_false (hA.ev rfl) ?_
  refine wp_exit ?_
  refine hK17 _ _ ?_
  refine wp_seq_k (fun K38 hK38 => ?_)
  refine wp_seq_k (fun K39 hK39 => ?_)
  refine wp_region_lit ?_
  refine seq_do (v := .pointer (some ⟨g2, 0, none⟩)) hA rfl rfl rfl (does_field SmB_fld_26_0 rfl rfl) ?_
  intro a hA
  refine seq_do (v := .pointer (some ⟨g2, 0, none⟩)) hA rfl rfl rfl (does_field SmB_fld_24_0 rfl rfl) ?_
  intro a hA
  refine seq_do hA rfl rfl rfl (does_load1 hS SmB_is1_4 rfl 0 rfl rfl) ?_
  intro a hA
  refine seq_end ?_
  refine hK39 _ _ ?_
  refine wp_cond_true (hA.ev rfl) ?_
  refine wp_seq_k (fun K40 hK40 => ?_)
  refine wp_seq_k (fun K41 hK41 => ?_)
  refine wp_region_lit ?_
  refine seq_do hA rfl rfl rfl (does_move rfl) ?_
  intro a hA
  refine seq_do (v := .bool true) hA rfl rfl rfl (does_bin rfl rfl (fun w => (bin_gtr w).trans (by rw [show (decide (9223372036854775808 < ((x : Nat) : Int))) = true from (decide_eq_true (by omega))]))) ?_
  intro a hA
  refine seq_end ?_
  refine hK41 _ _ ?_
  refine wp_cond_true (hA.ev rfl) ?_
  refine wp_seq_k (fun K42 hK42 => ?_)
  refine wp_region_lit ?_
  refine seq_do hA rfl rfl rfl (does_assign rfl) ?_
  intro a hA
  refine seq_do hA rfl rfl rfl (does_assign rfl) ?_
  intro a hA
  refine seq_end ?_
  refine hK42 _ _ ?_
  refine wp_ret ?_
  refine hret _ _ ?_
  refine ends (v := .tuple #[.int .i64 0, .int .i64 4]) hA rfl (.cons (res_tmp rfl) (.cons (res_tmp rfl) .nil)) rfl ?_
  exact ⟨rfl, hS.bel⟩
theorem rsmall2tS_any {w : World} {d0 d1 y x : Nat} (h0 : d0 < 4294967296) (h1 : d1 < 4294967296) (hy : d1 * 4294967296 = y) (hx : y + d0 = x) {a1 a2 a3 a4 : Option Addr} {ac1 ac2 ac3 ac4 : Nat} (ha : Nm w ((⟨true, [d0, d1], [1], false, [], [1]⟩ : Q6)) a1 ac1 a2 ac2 a3 ac3 a4 ac4) (hs : soundQ (⟨true, [d0, d1], [1], false, [], [1]⟩ : Q6) = true) (hw : wholeQ (⟨true, [d0, d1], [1], false, [], [1]⟩ : Q6) = true) (hk : (words (x)) = [d0, d1]) (hz : bl (x) ≤ 64) (hc : x ≤ 9223372036854775808) (hp : 1 ≤ x) : Calls Tryz.prog 15 #[numV (⟨true, [d0, d1], [1], false, [], [1]⟩ : Q6) a1 ac1 a2 ac2 a3 ac3 a4 ac4] w fun e w' => e = .returned (.tuple #[.int .i64 (sgn true (x)), .int .i64 0]) ∧ Below w.heap.size w w' := by
  have hS : St w w [] [(a4, [1]), (a3, []), (a2, [1]), (a1, [d0, d1])] [] := ((((St.start w).addR ha.s1.rd).addR ha.s2.rd).addR ha.s3.rd).addR ha.s4.rd
  refine walk_of (l := [(0, .agg #[.bool true, .slice a1 2 ac1, .slice a2 1 ac2, .bool false, .slice a3 0 ac3, .slice a4 1 ac4])]) Tryz.func15 rfl Tryz.ntmps15 rfl rfl ?_
  intro Q hret hnorm hP a hA
  refine wp_seq_k (fun K1 hK1 => ?_)
  refine wp_region_lit ?_
  refine seq_new (vs := [.bool true, .slice a1 2 ac1, .slice a2 1 ac2, .bool false, .slice a3 0 ac3, .slice a4 1 ac4]) (t := 26) hA hS rfl rfl rfl (fun g => .pointer (some ⟨g, 0, none⟩)) (does_box rfl rfl) rfl ?_
  intro g2 w3 hS a hA
  refine seq_do hA rfl rfl rfl (does_assign rfl) ?_
  intro a hA
  refine seq_do hA rfl rfl rfl (does_assign rfl) ?_
  intro a hA
  refine seq_end ?_
  refine hK1 _ _ ?_
  refine wp_seq_k (fun K4 hK4 => ?_)
  refine wp_seq_k (fun K5 hK5 => ?_)
  refine wp_region_lit ?_
  refine seq_do (v := .agg #[.bool true, .slice a1 2 ac1, .slice a2 1 ac2, .bool false, .slice a3 0 ac3, .slice a4 1 ac4]) hA rfl rfl rfl (does_loadS hS SmB_isS_26 rfl 0 rfl (cs := [.bool true, .slice a1 2 ac1, .slice a2 1 ac2, .bool false, .slice a3 0 ac3, .slice a4 1 ac4]) rfl rfl) ?_
  intro a hA
  refine seq_call hA rfl rfl rfl (enters_func  rfl rfl (fun w => by kernel_rfl)) (rsoundQ_any (show Nm _ _ a1 ac1 a2 ac2 a3 ac3 a4 ac4 from ⟨⟨(hS.rd 3 rfl), ha.s1.nil, ha.s1.cap⟩, ⟨(hS.rd 2 rfl), ha.s2.nil, ha.s2.cap⟩, ⟨(hS.rd 1 rfl), ha.s3.nil, ha.s3.cap⟩, ⟨(hS.rd 0 rfl), ha.s4.nil, ha.s4.cap⟩⟩) ⟨Nat.le_of_ble_eq_true rfl, Nat.le_of_ble_eq_true rfl, Nat.le_of_ble_eq_true rfl, Nat.le_of_ble_eq_true rfl⟩ hs) ?_
  rintro _ w7 ⟨rfl, hb6⟩
  replace hS := hS.call hb6
  refine ⟨_, rfl, ?_⟩
  intro a hA
  refine seq_do (v := .bool false) hA rfl rfl rfl (does_un rfl un_not) ?_
  intro a hA
  refine seq_end ?_
  refine hK5 _ _ ?_
  refine wp_cond_false (hA.ev rfl) ?_
  refine wp_skip ?_
  refine hK4 _ _ ?_
  refine wp_seq_k (fun K8 hK8 => ?_)
  refine wp_seq_k (fun K9 hK9 => ?_)
  refine wp_region_lit ?_
  refine seq_do (v := .agg #[.bool true, .slice a1 2 ac1, .slice a2 1 ac2, .bool false, .slice a3 0 ac3, .slice a4 1 ac4]) hA rfl rfl rfl (does_loadS hS SmB_isS_26 rfl 0 rfl (cs := [.bool true, .slice a1 2 ac1, .slice a2 1 ac2, .bool false, .slice a3 0 ac3, .slice a4 1 ac4]) rfl rfl) ?_
  intro a hA
  refine seq_call hA rfl rfl rfl (enters_func  rfl rfl (fun w => by kernel_rfl)) (rwholeQ_any (show Nm _ _ a1 ac1 a2 ac2 a3 ac3 a4 ac4 from ⟨⟨(hS.rd 3 rfl), ha.s1.nil, ha.s1.cap⟩, ⟨(hS.rd 2 rfl), ha.s2.nil, ha.s2.cap⟩, ⟨(hS.rd 1 rfl), ha.s3.nil, ha.s3.cap⟩, ⟨(hS.rd 0 rfl), ha.s4.nil, ha.s4.cap⟩⟩) ⟨Nat.le_of_ble_eq_true rfl, Nat.le_of_ble_eq_true rfl, Nat.le_of_ble_eq_true rfl, Nat.le_of_ble_eq_true rfl⟩ hw) ?_
  rintro _ w11 ⟨rfl, hb10⟩
  replace hS := hS.call hb10
  refine ⟨_, rfl, ?_⟩
  intro a hA
  refine seq_do (v := .bool false) hA rfl rfl rfl (does_un rfl un_not) ?_
  intro a hA
  refine seq_end ?_
  refine hK9 _ _ ?_
  refine wp_cond_false (hA.ev rfl) ?_
  refine wp_skip ?_
  refine hK8 _ _ ?_
  refine wp_seq_k (fun K12 hK12 => ?_)
  refine wp_seq_k (fun K13 hK13 => ?_)
  refine wp_region_lit ?_
  refine seq_do (v := .pointer (some ⟨g2, 0, none⟩)) hA rfl rfl rfl (does_field SmB_fld_26_0 rfl rfl) ?_
  intro a hA
  refine seq_do (v := .pointer (some ⟨g2, 1, none⟩)) hA rfl rfl rfl (does_field SmB_fld_24_1 rfl rfl) ?_
  intro a hA
  refine seq_do hA rfl rfl rfl (does_load1 hS SmB_is1_22 rfl 0 rfl rfl) ?_
  intro a hA
  refine seq_call hA rfl rfl rfl (enters_func  rfl rfl (fun w => by kernel_rfl)) ((show Calls Tryz.prog 53 #[.slice a1 2 ac1] _ (fun e w' => e = .returned (.int .i64 ((bl (x) : Nat) : Int)) ∧ w' = _) from (by have h9 := size_any (x := x) ac1 (show Rd _ a1 (words (x)) from (by rw [hk]; exact (hS.rd 3 rfl))) (by rw [hk]; exact Nat.le_of_ble_eq_true rfl); rw [hk] at h9; exact h9))) ?_
  rintro _ w15 ⟨rfl, hb14⟩
  replace hb14 := below_eq hb14
  replace hS := hS.call hb14
  refine ⟨_, rfl, ?_⟩
  intro a hA
  refine seq_do (v := .bool false) hA rfl rfl rfl (does_bin rfl rfl (fun w => (bin_gtr w).trans (by rw [show (decide (64 < ((bl (x) : Nat) : Int))) = false from (decide_eq_false (by omega))]))) ?_
  intro a hA
  refine seq_end ?_
  refine hK13 _ _ ?_
  refine wp_cond_false (hA.ev rfl) ?_
  refine wp_skip ?_
  refine hK12 _ _ ?_
  refine wp_seq_k (fun K16 hK16 => ?_)
  refine wp_region_lit ?_
  refine seq_do hA rfl rfl rfl (does_assign rfl) ?_
  intro a hA
  refine seq_end ?_
  refine hK16 _ _ ?_
  refine wp_seq_k (fun K17 hK17 => ?_)
  refine wp_seq_k (fun K18 hK18 => ?_)
  refine wp_region_lit ?_
  refine seq_do (v := .pointer (some ⟨g2, 0, none⟩)) hA rfl rfl rfl (does_field SmB_fld_26_0 rfl rfl) ?_
  intro a hA
  refine seq_do (v := .pointer (some ⟨g2, 1, none⟩)) hA rfl rfl rfl (does_field SmB_fld_24_1 rfl rfl) ?_
  intro a hA
  refine seq_do hA rfl rfl rfl (does_load1 hS SmB_is1_22 rfl 0 rfl rfl) ?_
  intro a hA
  refine seq_do (v := .int .i64 2) hA rfl rfl rfl (does_len Tryz.underlying22 rfl) ?_
  intro a hA
  refine seq_do (v := .int .i64 1) hA rfl rfl rfl (does_bin rfl rfl (fun w => by kernel_rfl)) ?_
  intro a hA
  refine seq_do hA rfl rfl rfl (does_assign rfl) ?_
  intro a hA
  refine seq_end ?_
  refine hK18 _ _ ?_
  refine wp_block ?_
  refine wp_loop_rounds 12 ?_
  refine rounds_k (fun K19 hK19 => ?_)
  refine wp_seq_k (fun K20 hK20 => ?_)
  refine wp_seq_k (fun K21 hK21 => ?_)
  refine wp_region_lit ?_
  refine seq_do hA rfl rfl rfl (does_move rfl) ?_
  intro a hA
  refine seq_do (v := .bool true) hA rfl rfl rfl (does_bin rfl rfl (fun w => by kernel_rfl)) ?_
  intro a hA
  refine seq_end ?_
  refine hK21 _ _ ?_
  refine wp_cond_true (hA.ev rfl) ?_
  refine wp_skip ?_
  refine hK20 _ _ ?_
  refine wp_seq_k (fun K22 hK22 => ?_)
  refine wp_block ?_
  refine wp_region_lit ?_
  refine seq_do hA rfl rfl rfl (does_move rfl) ?_
  intro a hA
  refine seq_do (v := .int .u64 0) hA rfl rfl rfl (does_bin rfl rfl (ar_mul (by decide))) ?_
  intro a hA
  refine seq_do (v := .pointer (some ⟨g2, 0, none⟩)) hA rfl rfl rfl (does_field SmB_fld_26_0 rfl rfl) ?_
  intro a hA
  refine seq_do (v := .pointer (some ⟨g2, 1, none⟩)) hA rfl rfl rfl (does_field SmB_fld_24_1 rfl rfl) ?_
  intro a hA
  refine seq_do hA rfl rfl rfl (does_load1 hS SmB_is1_22 rfl 0 rfl rfl) ?_
  intro a hA
  refine seq_do hA rfl rfl rfl (does_move rfl) ?_
  intro a hA
  have hi26 : 1 < ([d0, d1]).length := by first | (simp; done) | omega
  obtain ⟨b23, f24, hso25⟩ := Rd.addr (hS.rd 3 rfl) hi26
  refine seq_do (v := .pointer (some ⟨b23, f24 + 1, none⟩)) hA rfl rfl rfl (does_indexRow (k := 1) Tryz.underlying22 (by kernel_rfl) rfl rfl (by omega) hso25 (by omega)) ?_
  intro a hA
  refine seq_do (v := .int .u32 (((([d0, d1]).getD 1 0 : Nat) : Int))) hA rfl rfl rfl (does_loadRow (hS.rd 3 rfl) hso25 hi26 SmB_is1_66 rfl) ?_
  intro a hA
  refine seq_do (v := .int .u64 (((d1 : Nat) : Int))) hA rfl rfl rfl (does_convert rfl (ar_conv Tryz.underlying66 Tryz.underlying61 (show IntKind.u64.wrap ((d1 : Nat) : Int) = ((d1 : Nat) : Int) from c32_u64 (by omega)))) ?_
  intro a hA
  refine seq_do (v := .int .u64 (((d1 : Nat) : Int))) hA rfl rfl rfl (does_bin rfl rfl (ar_add (show IntKind.u64.wrap (0 + ((d1 : Nat) : Int)) = ((d1 : Nat) : Int) from (in_u64 (by omega) (by omega)).trans (by omega)))) ?_
  intro a hA
  refine seq_do hA rfl rfl rfl (does_assign rfl) ?_
  intro a hA
  refine seq_end ?_
  refine hK22 _ _ ?_
  refine wp_region_lit ?_
  refine seq_do hA rfl rfl rfl (does_move rfl) ?_
  intro a hA
  refine seq_do (v := .int .i64 0) hA rfl rfl rfl (does_bin rfl rfl (fun w => by kernel_rfl)) ?_
  intro a hA
  refine seq_do hA rfl rfl rfl (does_assign rfl) ?_
  intro a hA
  refine seq_end ?_
  refine hK19 _ _ ?_
  refine rounds_k (fun K27 hK27 => ?_)
  refine wp_seq_k (fun K28 hK28 => ?_)
  refine wp_seq_k (fun K29 hK29 => ?_)
  refine wp_region_lit ?_
  refine seq_do hA rfl rfl rfl (does_move rfl) ?_
  intro a hA
  refine seq_do (v := .bool true) hA rfl rfl rfl (does_bin rfl rfl (fun w => by kernel_rfl)) ?_
  intro a hA
  refine seq_end ?_
  refine hK29 _ _ ?_
  refine wp_cond_true (hA.ev rfl) ?_
  refine wp_skip ?_
  refine hK28 _ _ ?_
  refine wp_seq_k (fun K30 hK30 => ?_)
  refine wp_block ?_
  refine wp_region_lit ?_
  refine seq_do hA rfl rfl rfl (does_move rfl) ?_
  intro a hA
  refine seq_do (v := .int .u64 (((y : Nat) : Int))) hA rfl rfl rfl (does_bin rfl rfl (ar_mul (show IntKind.u64.wrap (((d1 : Nat) : Int) * 4294967296) = ((y : Nat) : Int) from (in_u64 (by omega) (by omega)).trans (by omega)))) ?_
  intro a hA
  refine seq_do (v := .pointer (some ⟨g2, 0, none⟩)) hA rfl rfl rfl (does_field SmB_fld_26_0 rfl rfl) ?_
  intro a hA
  refine seq_do (v := .pointer (some ⟨g2, 1, none⟩)) hA rfl rfl rfl (does_field SmB_fld_24_1 rfl rfl) ?_
  intro a hA
  refine seq_do hA rfl rfl rfl (does_load1 hS SmB_is1_22 rfl 0 rfl rfl) ?_
  intro a hA
  refine seq_do hA rfl rfl rfl (does_move rfl) ?_
  intro a hA
  have hi34 : 0 < ([d0, d1]).length := by first | (simp; done) | omega
  obtain ⟨b31, f32, hso33⟩ := Rd.addr (hS.rd 3 rfl) hi34
  refine seq_do (v := .pointer (some ⟨b31, f32 + 0, none⟩)) hA rfl rfl rfl (does_indexRow (k := 0) Tryz.underlying22 (by kernel_rfl) rfl rfl (by omega) hso33 (by omega)) ?_
  intro a hA
  refine seq_do (v := .int .u32 (((([d0, d1]).getD 0 0 : Nat) : Int))) hA rfl rfl rfl (does_loadRow (hS.rd 3 rfl) hso33 hi34 SmB_is1_66 rfl) ?_
  intro a hA
  refine seq_do (v := .int .u64 (((d0 : Nat) : Int))) hA rfl rfl rfl (does_convert rfl (ar_conv Tryz.underlying66 Tryz.underlying61 (show IntKind.u64.wrap ((d0 : Nat) : Int) = ((d0 : Nat) : Int) from c32_u64 (by omega)))) ?_
  intro a hA
  refine seq_do (v := .int .u64 (((x : Nat) : Int))) hA rfl rfl rfl (does_bin rfl rfl (ar_add (show IntKind.u64.wrap (((y : Nat) : Int) + ((d0 : Nat) : Int)) = ((x : Nat) : Int) from (in_u64 (by omega) (by omega)).trans (by omega)))) ?_
  intro a hA
  refine seq_do hA rfl rfl rfl (does_assign rfl) ?_
  intro a hA
  refine seq_end ?_
  refine hK30 _ _ ?_
  refine wp_region_lit ?_
  refine seq_do hA rfl rfl rfl (does_move rfl) ?_
  intro a hA
  refine seq_do (v := .int .i64 (-1)) hA rfl rfl rfl (does_bin rfl rfl (fun w => by kernel_rfl)) ?_
  intro a hA
  refine seq_do hA rfl rfl rfl (does_assign rfl) ?_
  intro a hA
  refine seq_end ?_
  refine hK27 _ _ ?_
  refine rounds_k (fun K35 hK35 => ?_)
  refine wp_seq_k (fun K36 hK36 => ?_)
  refine wp_seq_k (fun K37 hK37 => ?_)
  refine wp_region_lit ?_
  refine seq_do hA rfl rfl rfl (does_move rfl) ?_
  intro a hA
  refine seq_do (v := .bool false) hA rfl rfl rfl (does_bin rfl rfl (fun w => by kernel_rfl)) ?_
  intro a hA
  refine seq_end ?_
  refine hK37 _ _ ?_
  refine wp_cond_false (hA.ev rfl) ?_
  refine wp_exit ?_
  refine hK17 _ _ ?_
  refine wp_seq_k (fun K38 hK38 => ?_)
  refine wp_seq_k (fun K39 hK39 => ?_)
  refine wp_region_lit ?_
  refine seq_do (v := .pointer (some ⟨g2, 0, none⟩)) hA rfl rfl rfl (does_field SmB_fld_26_0 rfl rfl) ?_
  intro a hA
  refine seq_do (v := .pointer (some ⟨g2, 0, none⟩)) hA rfl rfl rfl (does_field SmB_fld_24_0 rfl rfl) ?_
  intro a hA
  refine seq_do hA rfl rfl rfl (does_load1 hS SmB_is1_4 rfl 0 rfl rfl) ?_
  intro a hA
  refine seq_end ?_
  refine hK39 _ _ ?_
  refine wp_cond_true (hA.ev rfl) ?_
  refine wp_seq_k (fun K40 hK40 => ?_)
  refine wp_seq_k (fun K41 hK41 => ?_)
  refine wp_region_lit ?_
  refine seq_do hA rfl rfl rfl (does_move rfl) ?_
  intro a hA
  refine seq_do (v := .bool false) hA rfl rfl rfl (does_bin rfl rfl (fun w => (bin_gtr w).trans (by rw [show (decide (9223372036854775808 < ((x : Nat) : Int))) = false from (decide_eq_false (by omega))]))) ?_
  intro a hA
  refine seq_end ?_
  refine hK41 _ _ ?_
  refine wp_cond_false (hA.ev rfl) ?_
  refine wp_skip ?_
  refine hK40 _ _ ?_
  refine wp_seq_k (fun K42 hK42 => ?_)
  refine wp_region_lit ?_
  refine seq_do hA rfl rfl rfl (does_move rfl) ?_
  intro a hA
  refine seq_do (v := .int .u64 (((x - 1 : Nat) : Int))) hA rfl rfl rfl (does_bin rfl rfl (ar_sub (show IntKind.u64.wrap (((x : Nat) : Int) - 1) = ((x - 1 : Nat) : Int) from (in_u64 (by omega) (by omega)).trans (by omega)))) ?_
  intro a hA
  refine seq_do (v := .int .i64 (((x - 1 : Nat) : Int))) hA rfl rfl rfl (does_convert rfl (ar_conv Tryz.underlying61 Tryz.underlying3 (in_i64 (by omega) (by omega)))) ?_
  intro a hA
  refine seq_do (v := .int .i64 (-(((x - 1 : Nat) : Int)))) hA rfl rfl rfl (does_un rfl (ar_neg (in_i64 (by omega) (by omega)))) ?_
  intro a hA
  refine seq_do (v := .int .i64 (-(((x - 1 : Nat) : Int)) - 1)) hA rfl rfl rfl (does_bin rfl rfl (bin_sub (i64In (by omega) (by omega)))) ?_
  intro a hA
  refine seq_do hA rfl rfl rfl (does_assign rfl) ?_
  intro a hA
  refine seq_do hA rfl rfl rfl (does_assign rfl) ?_
  intro a hA
  refine seq_end ?_
  refine hK42 _ _ ?_
  refine wp_ret ?_
  refine hret _ _ ?_
  refine ends (v := .tuple #[.int .i64 (-(((x - 1 : Nat) : Int)) - 1), .int .i64 0]) hA rfl (.cons (res_tmp rfl) (.cons (res_tmp rfl) .nil)) rfl ?_
  exact ⟨by rw [show (-(((x - 1 : Nat) : Int)) - 1) = sgn true (x) from by simp only [sgn]; first | rfl | omega | (simp; omega)], hS.bel⟩
theorem rsmallX_any {w : World} {b : Bool} {x : Nat} {a1 a2 a3 a4 : Option Addr} {ac1 ac2 ac3 ac4 : Nat} (ha : Nm w (Q6.whole b x) a1 ac1 a2 ac2 a3 ac3 a4 ac4) (hl : LenQ (Q6.whole b x)) (hs : soundQ (Q6.whole b x) = true) (hw : wholeQ (Q6.whole b x) = true) (hx : (words x).length ≤ 512) (hc : 64 < bl x) : Calls Tryz.prog 15 #[numV (Q6.whole b x) a1 ac1 a2 ac2 a3 ac3 a4 ac4] w fun e w' => e = .returned (.tuple #[.int .i64 0, .int .i64 4]) ∧ Below w.heap.size w w' := by
  have hS : St w w [] [(a4, [1]), (a3, []), (a2, [1]), (a1, words x)] [] := ((((St.start w).addR ha.s1.rd).addR ha.s2.rd).addR ha.s3.rd).addR ha.s4.rd
  refine walk_of (l := [(0, .agg #[.bool b, .slice a1 ((words x).length) ac1, .slice a2 1 ac2, .bool false, .slice a3 0 ac3, .slice a4 1 ac4])]) Tryz.func15 rfl Tryz.ntmps15 rfl rfl ?_
  intro Q hret hnorm hP a hA
  refine wp_seq_k (fun K1 hK1 => ?_)
  refine wp_region_lit ?_
  refine seq_new (vs := [.bool b, .slice a1 ((words x).length) ac1, .slice a2 1 ac2, .bool false, .slice a3 0 ac3, .slice a4 1 ac4]) (t := 26) hA hS rfl rfl rfl (fun g => .pointer (some ⟨g, 0, none⟩)) (does_box rfl rfl) rfl ?_
  intro g2 w3 hS a hA
  refine seq_do hA rfl rfl rfl (does_assign rfl) ?_
  intro a hA
  refine seq_do hA rfl rfl rfl (does_assign rfl) ?_
  intro a hA
  refine seq_end ?_
  refine hK1 _ _ ?_
  refine wp_seq_k (fun K4 hK4 => ?_)
  refine wp_seq_k (fun K5 hK5 => ?_)
  refine wp_region_lit ?_
  refine seq_do (v := .agg #[.bool b, .slice a1 ((words x).length) ac1, .slice a2 1 ac2, .bool false, .slice a3 0 ac3, .slice a4 1 ac4]) hA rfl rfl rfl (does_loadS hS SmB_isS_26 rfl 0 rfl (cs := [.bool b, .slice a1 ((words x).length) ac1, .slice a2 1 ac2, .bool false, .slice a3 0 ac3, .slice a4 1 ac4]) rfl rfl) ?_
  intro a hA
  refine seq_call hA rfl rfl rfl (enters_func  rfl rfl (fun w => by kernel_rfl)) (rsoundQ_any (show Nm _ _ a1 ac1 a2 ac2 a3 ac3 a4 ac4 from ⟨⟨(hS.rd 3 rfl), ha.s1.nil, ha.s1.cap⟩, ⟨(hS.rd 2 rfl), ha.s2.nil, ha.s2.cap⟩, ⟨(hS.rd 1 rfl), ha.s3.nil, ha.s3.cap⟩, ⟨(hS.rd 0 rfl), ha.s4.nil, ha.s4.cap⟩⟩) hl hs) ?_
  rintro _ w7 ⟨rfl, hb6⟩
  replace hS := hS.call hb6
  refine ⟨_, rfl, ?_⟩
  intro a hA
  refine seq_do (v := .bool false) hA rfl rfl rfl (does_un rfl un_not) ?_
  intro a hA
  refine seq_end ?_
  refine hK5 _ _ ?_
  refine wp_cond_false (hA.ev rfl) ?_
  refine wp_skip ?_
  refine hK4 _ _ ?_
  refine wp_seq_k (fun K8 hK8 => ?_)
  refine wp_seq_k (fun K9 hK9 => ?_)
  refine wp_region_lit ?_
  refine seq_do (v := .agg #[.bool b, .slice a1 ((words x).length) ac1, .slice a2 1 ac2, .bool false, .slice a3 0 ac3, .slice a4 1 ac4]) hA rfl rfl rfl (does_loadS hS SmB_isS_26 rfl 0 rfl (cs := [.bool b, .slice a1 ((words x).length) ac1, .slice a2 1 ac2, .bool false, .slice a3 0 ac3, .slice a4 1 ac4]) rfl rfl) ?_
  intro a hA
  refine seq_call hA rfl rfl rfl (enters_func  rfl rfl (fun w => by kernel_rfl)) (rwholeQ_any (show Nm _ _ a1 ac1 a2 ac2 a3 ac3 a4 ac4 from ⟨⟨(hS.rd 3 rfl), ha.s1.nil, ha.s1.cap⟩, ⟨(hS.rd 2 rfl), ha.s2.nil, ha.s2.cap⟩, ⟨(hS.rd 1 rfl), ha.s3.nil, ha.s3.cap⟩, ⟨(hS.rd 0 rfl), ha.s4.nil, ha.s4.cap⟩⟩) hl hw) ?_
  rintro _ w11 ⟨rfl, hb10⟩
  replace hS := hS.call hb10
  refine ⟨_, rfl, ?_⟩
  intro a hA
  refine seq_do (v := .bool false) hA rfl rfl rfl (does_un rfl un_not) ?_
  intro a hA
  refine seq_end ?_
  refine hK9 _ _ ?_
  refine wp_cond_false (hA.ev rfl) ?_
  refine wp_skip ?_
  refine hK8 _ _ ?_
  refine wp_seq_k (fun K12 hK12 => ?_)
  refine wp_seq_k (fun K13 hK13 => ?_)
  refine wp_region_lit ?_
  refine seq_do (v := .pointer (some ⟨g2, 0, none⟩)) hA rfl rfl rfl (does_field SmB_fld_26_0 rfl rfl) ?_
  intro a hA
  refine seq_do (v := .pointer (some ⟨g2, 1, none⟩)) hA rfl rfl rfl (does_field SmB_fld_24_1 rfl rfl) ?_
  intro a hA
  refine seq_do hA rfl rfl rfl (does_load1 hS SmB_is1_22 rfl 0 rfl rfl) ?_
  intro a hA
  refine seq_call hA rfl rfl rfl (enters_func  rfl rfl (fun w => by kernel_rfl)) (size_any _ (hS.rd 3 rfl) (by omega)) ?_
  rintro _ w15 ⟨rfl, hb14⟩
  replace hb14 := below_eq hb14
  replace hS := hS.call hb14
  refine ⟨_, rfl, ?_⟩
  intro a hA
  refine seq_do (v := .bool true) hA rfl rfl rfl (does_bin rfl rfl (fun w => (bin_gtr w).trans (by rw [show (decide (64 < ((bl x : Nat) : Int))) = true from (decide_eq_true (by omega))]))) ?_
  intro a hA
  refine seq_end ?_
  refine hK13 _ _ ?_
  refine wp_cond_true (hA.ev rfl) ?_
  refine wp_seq_k (fun K16 hK16 => ?_)
  refine wp_region_lit ?_
  refine seq_do hA rfl rfl rfl (does_assign rfl) ?_
  intro a hA
  refine seq_do hA rfl rfl rfl (does_assign rfl) ?_
  intro a hA
  refine seq_end ?_
  refine hK16 _ _ ?_
  refine wp_ret ?_
  refine hret _ _ ?_
  refine ends (v := .tuple #[.int .i64 0, .int .i64 4]) hA rfl (.cons (res_tmp rfl) (.cons (res_tmp rfl) .nil)) rfl ?_
  exact ⟨rfl, hS.bel⟩
end Go.Proofs.YthlkbnhbmfmchaaGreat
namespace Go.Proofs.YthlkbnhbmfmchaaGreat
open Go.RowKit
set_option linter.unusedVariables false
set_option linter.unusedSimpArgs false
set_option maxRecDepth 100000
theorem ExO_is1_22 : Is1 Tryz.prog 22 := ⟨⟨_, Tryz.underlying22, rfl⟩, by kernel_rfl⟩
theorem ExO_is1_4 : Is1 Tryz.prog 4 := ⟨⟨_, Tryz.underlying4, rfl⟩, by kernel_rfl⟩
theorem ExO_fld_53_0 : FieldAt Tryz.prog 53 0 0 := ⟨_, _, Tryz.underlying53, rfl, rfl, by kernel_rfl⟩
theorem ExO_fld_53_1 : FieldAt Tryz.prog 53 1 1 := ⟨_, _, Tryz.underlying53, rfl, rfl, by kernel_rfl⟩
theorem ExO_isS_26 : IsS Tryz.prog 26 6 := ⟨⟨_, Tryz.underlying26⟩, by kernel_rfl⟩
theorem ExO_isS_53 : IsS Tryz.prog 53 2 := ⟨⟨_, Tryz.underlying53⟩, by kernel_rfl⟩
theorem zorder_any {w : World} {x y : Int} {so : Option Addr} {soc : Nat} (hso : Sc w so soc (words x.natAbs)) {uo : Option Addr} {uoc : Nat} (huo : Sc w uo uoc (words y.natAbs)) (lx : (words x.natAbs).length ≤ 49000) (ly : (words y.natAbs).length ≤ 49000) : Calls Tryz.prog 45 #[.agg #[.bool (rb x), .slice so (words x.natAbs).length soc], .agg #[.bool (rb y), .slice uo (words y.natAbs).length uoc]] w fun e w' => e = .returned (.int .i64 (cmpZ x y)) ∧ Below w.heap.size w w' := by
  have k1 : (words (-y).natAbs).length ≤ 49000 := by rw [Int.natAbs_neg]; exact ly
  have k2 := abs_add_len lx k1
  have hS : St w w [] [(uo, words y.natAbs), (so, words x.natAbs)] [] := ((St.start w).addR hso.rd).addR huo.rd
  refine walk_of (l := [(0, .agg #[.bool ((rb x)), .slice so ((words x.natAbs).length) soc]), (1, .agg #[.bool ((rb y)), .slice uo ((words y.natAbs).length) uoc])]) Tryz.func45 rfl Tryz.ntmps45 rfl rfl ?_
  intro Q hret hnorm hP a hA
  refine wp_seq_k (fun K1 hK1 => ?_)
  refine wp_region_lit ?_
  refine seq_new (vs := [.bool ((rb x)), .slice so ((words x.natAbs).length) soc]) (t := 53) hA hS rfl rfl rfl (fun g => .pointer (some ⟨g, 0, none⟩)) (does_box rfl rfl) rfl ?_
  intro g2 w3 hS a hA
  refine seq_new (vs := [.bool ((rb y)), .slice uo ((words y.natAbs).length) uoc]) (t := 53) hA hS rfl rfl rfl (fun g => .pointer (some ⟨g, 0, none⟩)) (does_box rfl rfl) rfl ?_
  intro g4 w5 hS a hA
  refine seq_do hA rfl rfl rfl (does_assign rfl) ?_
  intro a hA
  refine seq_end ?_
  refine hK1 _ _ ?_
  refine wp_seq_k (fun K6 hK6 => ?_)
  refine wp_seq_k (fun K7 hK7 => ?_)
  have hJ26 : ∀ a w1, (∃ (J21g : Nat) (J22 : Option Addr) (J23 : Nat), Sl a 18 [(0, .agg #[.bool ((rb x)), .slice so ((words x.natAbs).length) soc]), (1, .agg #[.bool ((rb y)), .slice uo ((words y.natAbs).length) uoc]), (4, .int .i64 0), (5, .pointer (some ⟨J21g, 0, none⟩))] ∧ St w w1 [(J21g, [.bool ((rb (x + (-y)))), .slice J22 ((words (x + (-y)).natAbs).length) J23]), (g4, [.bool ((rb y)), .slice uo ((words y.natAbs).length) uoc]), (g2, [.bool ((rb x)), .slice so ((words x.natAbs).length) soc])] [(J22, words (x + (-y)).natAbs), (uo, words y.natAbs), (so, words x.natAbs)] [] ∧ (J22 = none → J23 = 0) ∧ (words (x + (-y)).natAbs : List Nat).length ≤ J23) → K7 a w1 := by
    clear hA hS
    rintro a w27 ⟨J21g, J22, J23, hA, hS, hn24, hc25⟩
    refine hK7 _ _ ?_
    refine wp_block ?_
    refine wp_seq_k (fun K28 hK28 => ?_)
    refine wp_region_lit ?_
    refine seq_do (v := .pointer (some ⟨J21g, 0, none⟩)) hA rfl rfl rfl (does_field ExO_fld_53_0 rfl rfl) ?_
    intro a hA
    refine seq_do hA rfl rfl rfl (does_load1 hS ExO_is1_4 rfl 0 rfl rfl) ?_
    intro a hA
    refine seq_do hA rfl rfl rfl (does_assign rfl) ?_
    intro a hA
    refine seq_end ?_
    refine hK28 _ _ ?_
    refine wp_cond_split (t := (rb (x + (-y)))) (hA.ev rfl) (fun hc29 => ?_) (fun hc29 => ?_)
    · refine wp_seq_k (fun K30 hK30 => ?_)
      refine wp_region_lit ?_
      refine seq_do hA rfl rfl rfl (does_assign rfl) ?_
      intro a hA
      refine seq_end ?_
      refine hK30 _ _ ?_
      refine wp_ret ?_
      refine hret _ _ ?_
      refine ends (v := .int .i64 (-1)) hA rfl (.cons (res_tmp rfl) .nil) rfl ?_
      exact ⟨by rw [show cmpZ x y = -1 from by have h8 := of_decide_eq_true (show decide (x + -y < 0) = true from hc29); have h9 := words_pos_len (x + -y).natAbs; unfold cmpZ; split <;> (try split) <;> omega], hS.bel⟩
    · refine wp_seq_k (fun K31 hK31 => ?_)
      refine wp_region_lit ?_
      refine seq_do (v := .pointer (some ⟨J21g, 1, none⟩)) hA rfl rfl rfl (does_field ExO_fld_53_1 rfl rfl) ?_
      intro a hA
      refine seq_do hA rfl rfl rfl (does_load1 hS ExO_is1_22 rfl 0 rfl rfl) ?_
      intro a hA
      refine seq_do (v := .int .i64 ((((words (x + (-y)).natAbs).length : Nat) : Int))) hA rfl rfl rfl (does_len Tryz.underlying22 rfl) ?_
      intro a hA
      rcases Bool.eq_false_or_eq_true (((((words (x + (-y)).natAbs).length : Nat) : Int) == 0)) with hb32 | hb32
      · have hb32' := eq_of_beq hb32
        refine seq_do (v := .bool true) hA rfl rfl rfl (does_bin rfl rfl (fun w => (bin_eql w).trans (by rw [hb32]))) ?_
        intro a hA
        refine seq_do hA rfl rfl rfl (does_assign rfl) ?_
        intro a hA
        refine seq_end ?_
        refine hK31 _ _ ?_
        refine wp_cond_true (hA.ev rfl) ?_
        refine wp_seq_k (fun K33 hK33 => ?_)
        refine wp_region_lit ?_
        refine seq_do hA rfl rfl rfl (does_assign rfl) ?_
        intro a hA
        refine seq_end ?_
        refine hK33 _ _ ?_
        refine wp_ret ?_
        refine hret _ _ ?_
        refine ends (v := .int .i64 0) hA rfl (.cons (res_tmp rfl) .nil) rfl ?_
        exact ⟨by rw [show cmpZ x y = 0 from by have h8 := of_decide_eq_false (show decide (x + -y < 0) = false from hc29); have h9 := words_pos_len (x + -y).natAbs; unfold cmpZ; split <;> (try split) <;> omega], hS.bel⟩
      · have hb32' := ne_of_beq_false hb32
        refine seq_do (v := .bool false) hA rfl rfl rfl (does_bin rfl rfl (fun w => (bin_eql w).trans (by rw [hb32]))) ?_
        intro a hA
        refine seq_do hA rfl rfl rfl (does_assign rfl) ?_
        intro a hA
        refine seq_end ?_
        refine hK31 _ _ ?_
        refine wp_cond_false (hA.ev rfl) ?_
        refine wp_skip ?_
        refine hK6 _ _ ?_
        refine wp_seq_k (fun K34 hK34 => ?_)
        refine wp_region_lit ?_
        refine seq_do hA rfl rfl rfl (does_assign rfl) ?_
        intro a hA
        refine seq_end ?_
        refine hK34 _ _ ?_
        refine wp_ret ?_
        refine hret _ _ ?_
        refine ends (v := .int .i64 1) hA rfl (.cons (res_tmp rfl) .nil) rfl ?_
        exact ⟨by rw [show cmpZ x y = 1 from by have h8 := of_decide_eq_false (show decide (x + -y < 0) = false from hc29); have h9 := words_pos_len (x + -y).natAbs; unfold cmpZ; split <;> (try split) <;> omega], hS.bel⟩
  refine wp_draw (S := fun w1 => St w w1 [(g4, [.bool ((rb y)), .slice uo ((words y.natAbs).length) uoc]), (g2, [.bool ((rb x)), .slice so ((words x.natAbs).length) soc])] [(uo, words y.natAbs), (so, words x.natAbs)] []) (by kernel_rfl) ?_
  replace hS := hS.drew
  refine any_take (v := .agg #[.bool ((rb x)), .slice so ((words x.natAbs).length) soc]) hA 0 rfl rfl rfl rfl (by kernel_rfl) (by kernel_rfl) (by kernel_rfl) (fun c a w h => hP c a _ _ w h) hS (fun w1 hS => does_loadS hS ExO_isS_53 rfl 1 rfl (cs := [.bool ((rb x)), .slice so ((words x.natAbs).length) soc]) rfl rfl) ?_
  intro a hA
  refine any_take (v := .agg #[.bool ((rb y)), .slice uo ((words y.natAbs).length) uoc]) hA 1 rfl rfl rfl rfl (by kernel_rfl) (by kernel_rfl) (by kernel_rfl) (fun c a w h => hP c a _ _ w h) hS (fun w1 hS => does_loadS hS ExO_isS_53 rfl 0 rfl (cs := [.bool ((rb y)), .slice uo ((words y.natAbs).length) uoc]) rfl rfl) ?_
  intro a hA
  refine any_many (rs := [2, 4]) (by kernel_rfl) (by simp) ⟨?_, ?_, trivial⟩
  · refine op_call hA 2 rfl rfl rfl rfl (enters_func  rfl rfl (fun w => by kernel_rfl)) (zopp_any ⟨(hS.rd 0 rfl), huo.nil, huo.cap⟩) ?_
    rintro _ w39 ⟨zo35, zc36, rfl, hs37, hb38⟩
    replace hS := hS.call hb38
    replace hS := hS.addR hs37.rd
    refine ⟨_, rfl, (hS.partD (.refl _) 1 rfl (.refl _)), ?_⟩
    intro a hA
    refine any_many (rs := [3, 4]) (by kernel_rfl) (by simp) ⟨?_, ?_, trivial⟩
    · refine op_call hA 3 rfl rfl rfl rfl (enters_func  rfl rfl (fun w => by kernel_rfl)) (zplus_any ⟨(hS.rd 2 rfl), hso.nil, hso.cap⟩ ⟨(hS.rd 0 rfl), hs37.nil, hs37.cap⟩ (by omega) (by omega)) ?_
      rintro _ w44 ⟨zo40, zc41, rfl, hs42, hb43⟩
      replace hS := hS.call hb43
      replace hS := hS.addR hs42.rd
      refine ⟨_, rfl, (hS.partD (.refl _) 2 rfl (.refl _)), ?_⟩
      intro a hA
      refine any_one (by kernel_rfl) (op_new (vs := [.bool false, .slice none 0 0]) (t := 53) hA hS 4 rfl rfl rfl rfl (fun g => .pointer (some ⟨g, 0, none⟩)) (does_alloc (z := .agg #[.bool false, .slice none 0 0]) (by kernel_rfl) rfl) rfl ?_)
      intro g45 w46 hS
      refine ⟨(hS.partD (.cons _ (.cons_cons _ (.cons_cons _ .slnil))) 2 rfl (.refl _)), ?_⟩
      intro a hA
      refine any_one (by kernel_rfl) (op_store (us := [.bool ((rb (x + (-y)))), .slice zo40 ((words (x + (-y)).natAbs).length) zc41]) hA hS 5 rfl rfl rfl (sets_store (cs := [.bool ((rb (x + (-y)))), .slice zo40 ((words (x + (-y)).natAbs).length) zc41]) rfl rfl rfl (by kernel_rfl) hS 0 rfl rfl rfl) 0 rfl rfl rfl rfl ?_)
      intro w47 hS
      refine ⟨(hS.partD (.cons _ (.cons_cons _ (.cons_cons _ .slnil))) 2 rfl (.refl _)), ?_⟩
      refine any_end (by kernel_rfl) ?_
      refine hJ26 _ _ ⟨g45, zo40, zc41, hA.keep _ ⟨rfl, rfl, rfl, rfl, trivial⟩, ((hS.pickR [(zo40, words (x + (-y)).natAbs), (uo, words y.natAbs), (so, words x.natAbs)] ⟨⟨0, rfl⟩, ⟨⟨2, rfl⟩, ⟨⟨3, rfl⟩, trivial⟩⟩⟩).pickL [(g45, [.bool ((rb (x + (-y)))), .slice zo40 ((words (x + (-y)).natAbs).length) zc41]), (g4, [.bool ((rb y)), .slice uo ((words y.natAbs).length) uoc]), (g2, [.bool ((rb x)), .slice so ((words x.natAbs).length) soc])] [0, 1, 2] rfl (by decide)), hs42.nil, hs42.cap⟩
    · refine op_new (vs := [.bool false, .slice none 0 0]) (t := 53) hA hS 4 rfl rfl rfl rfl (fun g => .pointer (some ⟨g, 0, none⟩)) (does_alloc (z := .agg #[.bool false, .slice none 0 0]) (by kernel_rfl) rfl) rfl ?_
      intro g48 w49 hS
      refine ⟨(hS.partD (.cons _ (.cons_cons _ (.cons_cons _ .slnil))) 1 rfl (.refl _)), ?_⟩
      intro a hA
      refine any_one (by kernel_rfl) (op_call hA 3 rfl rfl rfl rfl (enters_func  rfl rfl (fun w => by kernel_rfl)) (zplus_any ⟨(hS.rd 2 rfl), hso.nil, hso.cap⟩ ⟨(hS.rd 0 rfl), hs37.nil, hs37.cap⟩ (by omega) (by omega)) ?_)
      rintro _ w54 ⟨zo50, zc51, rfl, hs52, hb53⟩
      replace hS := hS.call hb53
      replace hS := hS.addR hs52.rd
      refine ⟨_, rfl, (hS.partD (.cons _ (.cons_cons _ (.cons_cons _ .slnil))) 2 rfl (.refl _)), ?_⟩
      intro a hA
      refine any_one (by kernel_rfl) (op_store (us := [.bool ((rb (x + (-y)))), .slice zo50 ((words (x + (-y)).natAbs).length) zc51]) hA hS 5 rfl rfl rfl (sets_store (cs := [.bool ((rb (x + (-y)))), .slice zo50 ((words (x + (-y)).natAbs).length) zc51]) rfl rfl rfl (by kernel_rfl) hS 0 rfl rfl rfl) 0 rfl rfl rfl rfl ?_)
      intro w55 hS
      refine ⟨(hS.partD (.cons _ (.cons_cons _ (.cons_cons _ .slnil))) 2 rfl (.refl _)), ?_⟩
      refine any_end (by kernel_rfl) ?_
      refine hJ26 _ _ ⟨g48, zo50, zc51, hA.keep _ ⟨rfl, rfl, rfl, rfl, trivial⟩, ((hS.pickR [(zo50, words (x + (-y)).natAbs), (uo, words y.natAbs), (so, words x.natAbs)] ⟨⟨0, rfl⟩, ⟨⟨2, rfl⟩, ⟨⟨3, rfl⟩, trivial⟩⟩⟩).pickL [(g48, [.bool ((rb (x + (-y)))), .slice zo50 ((words (x + (-y)).natAbs).length) zc51]), (g4, [.bool ((rb y)), .slice uo ((words y.natAbs).length) uoc]), (g2, [.bool ((rb x)), .slice so ((words x.natAbs).length) soc])] [0, 1, 2] rfl (by decide)), hs52.nil, hs52.cap⟩
  · refine op_new (vs := [.bool false, .slice none 0 0]) (t := 53) hA hS 4 rfl rfl rfl rfl (fun g => .pointer (some ⟨g, 0, none⟩)) (does_alloc (z := .agg #[.bool false, .slice none 0 0]) (by kernel_rfl) rfl) rfl ?_
    intro g56 w57 hS
    refine ⟨(hS.partD (.cons _ (.cons_cons _ (.cons_cons _ .slnil))) 0 rfl (.refl _)), ?_⟩
    intro a hA
    refine any_one (by kernel_rfl) (op_call hA 2 rfl rfl rfl rfl (enters_func  rfl rfl (fun w => by kernel_rfl)) (zopp_any ⟨(hS.rd 0 rfl), huo.nil, huo.cap⟩) ?_)
    rintro _ w62 ⟨zo58, zc59, rfl, hs60, hb61⟩
    replace hS := hS.call hb61
    replace hS := hS.addR hs60.rd
    refine ⟨_, rfl, (hS.partD (.cons _ (.cons_cons _ (.cons_cons _ .slnil))) 1 rfl (.refl _)), ?_⟩
    intro a hA
    refine any_one (by kernel_rfl) (op_call hA 3 rfl rfl rfl rfl (enters_func  rfl rfl (fun w => by kernel_rfl)) (zplus_any ⟨(hS.rd 2 rfl), hso.nil, hso.cap⟩ ⟨(hS.rd 0 rfl), hs60.nil, hs60.cap⟩ (by omega) (by omega)) ?_)
    rintro _ w67 ⟨zo63, zc64, rfl, hs65, hb66⟩
    replace hS := hS.call hb66
    replace hS := hS.addR hs65.rd
    refine ⟨_, rfl, (hS.partD (.cons _ (.cons_cons _ (.cons_cons _ .slnil))) 2 rfl (.refl _)), ?_⟩
    intro a hA
    refine any_one (by kernel_rfl) (op_store (us := [.bool ((rb (x + (-y)))), .slice zo63 ((words (x + (-y)).natAbs).length) zc64]) hA hS 5 rfl rfl rfl (sets_store (cs := [.bool ((rb (x + (-y)))), .slice zo63 ((words (x + (-y)).natAbs).length) zc64]) rfl rfl rfl (by kernel_rfl) hS 0 rfl rfl rfl) 0 rfl rfl rfl rfl ?_)
    intro w68 hS
    refine ⟨(hS.partD (.cons _ (.cons_cons _ (.cons_cons _ .slnil))) 2 rfl (.refl _)), ?_⟩
    refine any_end (by kernel_rfl) ?_
    refine hJ26 _ _ ⟨g56, zo63, zc64, hA.keep _ ⟨rfl, rfl, rfl, rfl, trivial⟩, ((hS.pickR [(zo63, words (x + (-y)).natAbs), (uo, words y.natAbs), (so, words x.natAbs)] ⟨⟨0, rfl⟩, ⟨⟨2, rfl⟩, ⟨⟨3, rfl⟩, trivial⟩⟩⟩).pickL [(g56, [.bool ((rb (x + (-y)))), .slice zo63 ((words (x + (-y)).natAbs).length) zc64]), (g4, [.bool ((rb y)), .slice uo ((words y.natAbs).length) uoc]), (g2, [.bool ((rb x)), .slice so ((words x.natAbs).length) soc])] [0, 1, 2] rfl (by decide)), hs65.nil, hs65.cap⟩
theorem wantR2_any {w : World} {p : Q6} {a1 a2 a3 a4 : Option Addr} {ac1 ac2 ac3 ac4 : Nat} (ha : Nm w p a1 ac1 a2 ac2 a3 ac3 a4 ac4) (hl : LenQ p) {q : Q6} {b1 b2 b3 b4 : Option Addr} {bc1 bc2 bc3 bc4 : Nat} (hb : Nm w q b1 bc1 b2 bc2 b3 bc3 b4 bc4) (hm : LenQ q) {g : Nat} (hg : Blk w g [.bool p.b1, .slice a1 p.t1.length ac1, .slice a2 p.q1.length ac2, .bool p.b2, .slice a3 p.t2.length ac3, .slice a4 p.q2.length ac4, .bool q.b1, .slice b1 q.t1.length bc1, .slice b2 q.q1.length bc2, .bool q.b2, .slice b3 q.t2.length bc3, .slice b4 q.q2.length bc4]) {r : Int} (hr : wantR2 p q = r) : Calls Tryz.prog 42 #[.slice (some ⟨g, 0, none⟩) 2 2] w fun e w' => e = .returned (.int .i64 r) ∧ Below w.heap.size w w' := by
  have hS : St w w [] [(b4, q.q2), (b3, q.t2), (b2, q.q1), (b1, q.t1), (a4, p.q2), (a3, p.t2), (a2, p.q1), (a1, p.t1)] [] := ((((((((St.start w).addR ha.s1.rd).addR ha.s2.rd).addR ha.s3.rd).addR ha.s4.rd).addR hb.s1.rd).addR hb.s2.rd).addR hb.s3.rd).addR hb.s4.rd
  refine walk_of (l := [(0, .slice (some ⟨g, 0, none⟩) 2 2)]) Tryz.func42 rfl Tryz.ntmps42 rfl rfl ?_
  intro Q hret hnorm hP a hA
  refine wp_seq_k (fun K1 hK1 => ?_)
  refine wp_region_lit ?_
  refine seq_do hA rfl rfl rfl (does_assign rfl) ?_
  intro a hA
  refine seq_end ?_
  refine hK1 _ _ ?_
  refine wp_seq_k (fun K2 hK2 => ?_)
  refine wp_seq_k (fun K3 hK3 => ?_)
  refine wp_region_lit ?_
  refine seq_do hA rfl rfl rfl (does_move rfl) ?_
  intro a hA
  refine seq_do (v := .int .i64 2) hA rfl rfl rfl (does_len Tryz.underlying97 rfl) ?_
  intro a hA
  refine seq_do hA rfl rfl rfl (does_move rfl) ?_
  intro a hA
  refine seq_end ?_
  refine hK3 _ _ ?_
  refine wp_block ?_
  refine wp_loop_rounds 12 ?_
  refine rounds_k (fun K4 hK4 => ?_)
  refine wp_seq_k (fun K5 hK5 => ?_)
  refine wp_region_lit ?_
  refine seq_do (v := .bool true) hA rfl rfl rfl (does_bin rfl rfl (fun w => by kernel_rfl)) ?_
  intro a hA
  refine seq_end ?_
  refine hK5 _ _ ?_
  refine wp_seq_k (fun K6 hK6 => ?_)
  refine wp_cond_true (hA.ev rfl) ?_
  refine wp_skip ?_
  refine hK6 _ _ ?_
  refine wp_seq_k (fun K7 hK7 => ?_)
  refine wp_block ?_
  refine wp_seq_k (fun K8 hK8 => ?_)
  refine wp_region_lit ?_
  refine seq_do (v := .pointer (some ⟨g, 0, none⟩)) hA rfl rfl rfl (does_indexI rfl rfl (fun w => by kernel_rfl)) ?_
  intro a hA
  refine seq_do (v := .agg #[.bool p.b1, .slice a1 p.t1.length ac1, .slice a2 p.q1.length ac2, .bool p.b2, .slice a3 p.t2.length ac3, .slice a4 p.q2.length ac4]) hA rfl rfl rfl (does_loadSF hS hg ExO_isS_26 rfl (cs := [.bool p.b1, .slice a1 p.t1.length ac1, .slice a2 p.q1.length ac2, .bool p.b2, .slice a3 p.t2.length ac3, .slice a4 p.q2.length ac4]) rfl rfl) ?_
  intro a hA
  refine seq_new (vs := [.bool false, .slice none 0 0, .slice none 0 0, .bool false, .slice none 0 0, .slice none 0 0]) (t := 26) hA hS rfl rfl rfl (fun g => .pointer (some ⟨g, 0, none⟩)) (does_alloc (z := .agg #[.bool false, .slice none 0 0, .slice none 0 0, .bool false, .slice none 0 0, .slice none 0 0]) (by kernel_rfl) rfl) rfl ?_
  intro g9 w10 hS a hA
  refine seq_store (us := [.bool p.b1, .slice a1 p.t1.length ac1, .slice a2 p.q1.length ac2, .bool p.b2, .slice a3 p.t2.length ac3, .slice a4 p.q2.length ac4]) hA hS rfl rfl (sets_store (cs := [.bool p.b1, .slice a1 p.t1.length ac1, .slice a2 p.q1.length ac2, .bool p.b2, .slice a3 p.t2.length ac3, .slice a4 p.q2.length ac4]) rfl rfl rfl (by kernel_rfl) hS 0 rfl rfl rfl) 0 rfl rfl rfl rfl ?_
  intro w11 hS
  refine seq_end ?_
  refine hK8 _ _ ?_
  refine wp_seq_k (fun K12 hK12 => ?_)
  refine wp_region_lit ?_
  refine seq_do (v := .agg #[.bool p.b1, .slice a1 p.t1.length ac1, .slice a2 p.q1.length ac2, .bool p.b2, .slice a3 p.t2.length ac3, .slice a4 p.q2.length ac4]) hA rfl rfl rfl (does_loadS hS ExO_isS_26 rfl 0 rfl (cs := [.bool p.b1, .slice a1 p.t1.length ac1, .slice a2 p.q1.length ac2, .bool p.b2, .slice a3 p.t2.length ac3, .slice a4 p.q2.length ac4]) rfl rfl) ?_
  intro a hA
  rcases Bool.eq_false_or_eq_true (soundQ p) with hb13 | hb13
  · refine seq_call hA rfl rfl rfl (enters_func  rfl rfl (fun w => by kernel_rfl)) (soundQ_any (show Nm _ _ a1 ac1 a2 ac2 a3 ac3 a4 ac4 from ⟨⟨(hS.rd 7 rfl), ha.s1.nil, ha.s1.cap⟩, ⟨(hS.rd 6 rfl), ha.s2.nil, ha.s2.cap⟩, ⟨(hS.rd 5 rfl), ha.s3.nil, ha.s3.cap⟩, ⟨(hS.rd 4 rfl), ha.s4.nil, ha.s4.cap⟩⟩) hl hb13) ?_
    rintro _ w15 ⟨rfl, hb14⟩
    replace hS := hS.call hb14
    refine ⟨_, rfl, ?_⟩
    intro a hA
    refine seq_do (v := .bool false) hA rfl rfl rfl (does_un rfl un_not) ?_
    intro a hA
    refine seq_end ?_
    refine hK12 _ _ ?_
    refine wp_cond_false (hA.ev rfl) ?_
    refine wp_skip ?_
    refine hK7 _ _ ?_
    refine wp_region_lit ?_
    refine seq_do (v := .int .i64 1) hA rfl rfl rfl (does_bin rfl rfl (fun w => by kernel_rfl)) ?_
    intro a hA
    refine seq_do hA rfl rfl rfl (does_move rfl) ?_
    intro a hA
    refine seq_end ?_
    refine hK4 _ _ ?_
    refine rounds_k (fun K16 hK16 => ?_)
    refine wp_seq_k (fun K17 hK17 => ?_)
    refine wp_region_lit ?_
    refine seq_do (v := .bool true) hA rfl rfl rfl (does_bin rfl rfl (fun w => by kernel_rfl)) ?_
    intro a hA
    refine seq_end ?_
    refine hK17 _ _ ?_
    refine wp_seq_k (fun K18 hK18 => ?_)
    refine wp_cond_true (hA.ev rfl) ?_
    refine wp_skip ?_
    refine hK18 _ _ ?_
    refine wp_seq_k (fun K19 hK19 => ?_)
    refine wp_block ?_
    refine wp_seq_k (fun K20 hK20 => ?_)
    refine wp_region_lit ?_
    refine seq_do (v := .pointer (some ⟨g, 6, none⟩)) hA rfl rfl rfl (does_indexI rfl rfl (fun w => by kernel_rfl)) ?_
    intro a hA
    refine seq_do (v := .agg #[.bool q.b1, .slice b1 q.t1.length bc1, .slice b2 q.q1.length bc2, .bool q.b2, .slice b3 q.t2.length bc3, .slice b4 q.q2.length bc4]) hA rfl rfl rfl (does_loadSF hS hg ExO_isS_26 rfl (cs := [.bool q.b1, .slice b1 q.t1.length bc1, .slice b2 q.q1.length bc2, .bool q.b2, .slice b3 q.t2.length bc3, .slice b4 q.q2.length bc4]) rfl rfl) ?_
    intro a hA
    refine seq_new (vs := [.bool false, .slice none 0 0, .slice none 0 0, .bool false, .slice none 0 0, .slice none 0 0]) (t := 26) hA hS rfl rfl rfl (fun g => .pointer (some ⟨g, 0, none⟩)) (does_alloc (z := .agg #[.bool false, .slice none 0 0, .slice none 0 0, .bool false, .slice none 0 0, .slice none 0 0]) (by kernel_rfl) rfl) rfl ?_
    intro g21 w22 hS a hA
    refine seq_store (us := [.bool q.b1, .slice b1 q.t1.length bc1, .slice b2 q.q1.length bc2, .bool q.b2, .slice b3 q.t2.length bc3, .slice b4 q.q2.length bc4]) hA hS rfl rfl (sets_store (cs := [.bool q.b1, .slice b1 q.t1.length bc1, .slice b2 q.q1.length bc2, .bool q.b2, .slice b3 q.t2.length bc3, .slice b4 q.q2.length bc4]) rfl rfl rfl (by kernel_rfl) hS 0 rfl rfl rfl) 0 rfl rfl rfl rfl ?_
    intro w23 hS
    refine seq_end ?_
    refine hK20 _ _ ?_
    refine wp_seq_k (fun K24 hK24 => ?_)
    refine wp_region_lit ?_
    refine seq_do (v := .agg #[.bool q.b1, .slice b1 q.t1.length bc1, .slice b2 q.q1.length bc2, .bool q.b2, .slice b3 q.t2.length bc3, .slice b4 q.q2.length bc4]) hA rfl rfl rfl (does_loadS hS ExO_isS_26 rfl 0 rfl (cs := [.bool q.b1, .slice b1 q.t1.length bc1, .slice b2 q.q1.length bc2, .bool q.b2, .slice b3 q.t2.length bc3, .slice b4 q.q2.length bc4]) rfl rfl) ?_
    intro a hA
    rcases Bool.eq_false_or_eq_true (soundQ q) with hb25 | hb25
    · refine seq_call hA rfl rfl rfl (enters_func  rfl rfl (fun w => by kernel_rfl)) (soundQ_any (show Nm _ _ b1 bc1 b2 bc2 b3 bc3 b4 bc4 from ⟨⟨(hS.rd 3 rfl), hb.s1.nil, hb.s1.cap⟩, ⟨(hS.rd 2 rfl), hb.s2.nil, hb.s2.cap⟩, ⟨(hS.rd 1 rfl), hb.s3.nil, hb.s3.cap⟩, ⟨(hS.rd 0 rfl), hb.s4.nil, hb.s4.cap⟩⟩) hm hb25) ?_
      rintro _ w27 ⟨rfl, hb26⟩
      replace hS := hS.call hb26
      refine ⟨_, rfl, ?_⟩
      intro a hA
      refine seq_do (v := .bool false) hA rfl rfl rfl (does_un rfl un_not) ?_
      intro a hA
      refine seq_end ?_
      refine hK24 _ _ ?_
      refine wp_cond_false (hA.ev rfl) ?_
      refine wp_skip ?_
      refine hK19 _ _ ?_
      refine wp_region_lit ?_
      refine seq_do (v := .int .i64 2) hA rfl rfl rfl (does_bin rfl rfl (fun w => by kernel_rfl)) ?_
      intro a hA
      refine seq_do hA rfl rfl rfl (does_move rfl) ?_
      intro a hA
      refine seq_end ?_
      refine hK16 _ _ ?_
      refine rounds_k (fun K28 hK28 => ?_)
      refine wp_seq_k (fun K29 hK29 => ?_)
      refine wp_region_lit ?_
      refine seq_do (v := .bool false) hA rfl rfl rfl (does_bin rfl rfl (fun w => by kernel_rfl)) ?_
      intro a hA
      refine seq_end ?_
      refine hK29 _ _ ?_
      refine wp_seq_k (fun K30 hK30 => ?_)
      refine wp_cond_false (hA.ev rfl) ?_
      refine wp_exit ?_
      refine hK2 _ _ ?_
      refine wp_seq_k (fun K31 hK31 => ?_)
      refine wp_seq_k (fun K32 hK32 => ?_)
      refine wp_region_lit ?_
      refine seq_do hA rfl rfl rfl (does_move rfl) ?_
      intro a hA
      refine seq_do (v := .int .i64 2) hA rfl rfl rfl (does_len Tryz.underlying97 rfl) ?_
      intro a hA
      refine seq_do hA rfl rfl rfl (does_move rfl) ?_
      intro a hA
      refine seq_end ?_
      refine hK32 _ _ ?_
      refine wp_block ?_
      refine wp_loop_rounds 12 ?_
      refine rounds_k (fun K33 hK33 => ?_)
      refine wp_seq_k (fun K34 hK34 => ?_)
      refine wp_region_lit ?_
      refine seq_do (v := .bool true) hA rfl rfl rfl (does_bin rfl rfl (fun w => by kernel_rfl)) ?_
      intro a hA
      refine seq_end ?_
      refine hK34 _ _ ?_
      refine wp_seq_k (fun K35 hK35 => ?_)
      refine wp_cond_true (hA.ev rfl) ?_
      refine wp_skip ?_
      refine hK35 _ _ ?_
      refine wp_seq_k (fun K36 hK36 => ?_)
      refine wp_block ?_
      refine wp_seq_k (fun K37 hK37 => ?_)
      refine wp_region_lit ?_
      refine seq_do (v := .pointer (some ⟨g, 0, none⟩)) hA rfl rfl rfl (does_indexI rfl rfl (fun w => by kernel_rfl)) ?_
      intro a hA
      refine seq_do (v := .agg #[.bool p.b1, .slice a1 p.t1.length ac1, .slice a2 p.q1.length ac2, .bool p.b2, .slice a3 p.t2.length ac3, .slice a4 p.q2.length ac4]) hA rfl rfl rfl (does_loadSF hS hg ExO_isS_26 rfl (cs := [.bool p.b1, .slice a1 p.t1.length ac1, .slice a2 p.q1.length ac2, .bool p.b2, .slice a3 p.t2.length ac3, .slice a4 p.q2.length ac4]) rfl rfl) ?_
      intro a hA
      refine seq_new (vs := [.bool false, .slice none 0 0, .slice none 0 0, .bool false, .slice none 0 0, .slice none 0 0]) (t := 26) hA hS rfl rfl rfl (fun g => .pointer (some ⟨g, 0, none⟩)) (does_alloc (z := .agg #[.bool false, .slice none 0 0, .slice none 0 0, .bool false, .slice none 0 0, .slice none 0 0]) (by kernel_rfl) rfl) rfl ?_
      intro g38 w39 hS a hA
      refine seq_store (us := [.bool p.b1, .slice a1 p.t1.length ac1, .slice a2 p.q1.length ac2, .bool p.b2, .slice a3 p.t2.length ac3, .slice a4 p.q2.length ac4]) hA hS rfl rfl (sets_store (cs := [.bool p.b1, .slice a1 p.t1.length ac1, .slice a2 p.q1.length ac2, .bool p.b2, .slice a3 p.t2.length ac3, .slice a4 p.q2.length ac4]) rfl rfl rfl (by kernel_rfl) hS 0 rfl rfl rfl) 0 rfl rfl rfl rfl ?_
      intro w40 hS
      refine seq_end ?_
      refine hK37 _ _ ?_
      refine wp_seq_k (fun K41 hK41 => ?_)
      refine wp_region_lit ?_
      refine seq_do (v := .agg #[.bool p.b1, .slice a1 p.t1.length ac1, .slice a2 p.q1.length ac2, .bool p.b2, .slice a3 p.t2.length ac3, .slice a4 p.q2.length ac4]) hA rfl rfl rfl (does_loadS hS ExO_isS_26 rfl 0 rfl (cs := [.bool p.b1, .slice a1 p.t1.length ac1, .slice a2 p.q1.length ac2, .bool p.b2, .slice a3 p.t2.length ac3, .slice a4 p.q2.length ac4]) rfl rfl) ?_
      intro a hA
      rcases Bool.eq_false_or_eq_true (decide (p.t2.length = 0)) with hb42 | hb42
      · have hb42' := of_decide_eq_true hb42
        refine seq_call hA rfl rfl rfl (enters_func  rfl rfl (fun w => by kernel_rfl)) (isRealQ_any (q := p) hl hb42) ?_
        rintro _ w44 ⟨rfl, hb43⟩
        replace hS := hS.call hb43
        refine ⟨_, rfl, ?_⟩
        intro a hA
        refine seq_do (v := .bool false) hA rfl rfl rfl (does_un rfl un_not) ?_
        intro a hA
        refine seq_end ?_
        refine hK41 _ _ ?_
        refine wp_cond_false (hA.ev rfl) ?_
        refine wp_skip ?_
        refine hK36 _ _ ?_
        refine wp_region_lit ?_
        refine seq_do (v := .int .i64 1) hA rfl rfl rfl (does_bin rfl rfl (fun w => by kernel_rfl)) ?_
        intro a hA
        refine seq_do hA rfl rfl rfl (does_move rfl) ?_
        intro a hA
        refine seq_end ?_
        refine hK33 _ _ ?_
        refine rounds_k (fun K45 hK45 => ?_)
        refine wp_seq_k (fun K46 hK46 => ?_)
        refine wp_region_lit ?_
        refine seq_do (v := .bool true) hA rfl rfl rfl (does_bin rfl rfl (fun w => by kernel_rfl)) ?_
        intro a hA
        refine seq_end ?_
        refine hK46 _ _ ?_
        refine wp_seq_k (fun K47 hK47 => ?_)
        refine wp_cond_true (hA.ev rfl) ?_
        refine wp_skip ?_
        refine hK47 _ _ ?_
        refine wp_seq_k (fun K48 hK48 => ?_)
        refine wp_block ?_
        refine wp_seq_k (fun K49 hK49 => ?_)
        refine wp_region_lit ?_
        refine seq_do (v := .pointer (some ⟨g, 6, none⟩)) hA rfl rfl rfl (does_indexI rfl rfl (fun w => by kernel_rfl)) ?_
        intro a hA
        refine seq_do (v := .agg #[.bool q.b1, .slice b1 q.t1.length bc1, .slice b2 q.q1.length bc2, .bool q.b2, .slice b3 q.t2.length bc3, .slice b4 q.q2.length bc4]) hA rfl rfl rfl (does_loadSF hS hg ExO_isS_26 rfl (cs := [.bool q.b1, .slice b1 q.t1.length bc1, .slice b2 q.q1.length bc2, .bool q.b2, .slice b3 q.t2.length bc3, .slice b4 q.q2.length bc4]) rfl rfl) ?_
        intro a hA
        refine seq_new (vs := [.bool false, .slice none 0 0, .slice none 0 0, .bool false, .slice none 0 0, .slice none 0 0]) (t := 26) hA hS rfl rfl rfl (fun g => .pointer (some ⟨g, 0, none⟩)) (does_alloc (z := .agg #[.bool false, .slice none 0 0, .slice none 0 0, .bool false, .slice none 0 0, .slice none 0 0]) (by kernel_rfl) rfl) rfl ?_
        intro g50 w51 hS a hA
        refine seq_store (us := [.bool q.b1, .slice b1 q.t1.length bc1, .slice b2 q.q1.length bc2, .bool q.b2, .slice b3 q.t2.length bc3, .slice b4 q.q2.length bc4]) hA hS rfl rfl (sets_store (cs := [.bool q.b1, .slice b1 q.t1.length bc1, .slice b2 q.q1.length bc2, .bool q.b2, .slice b3 q.t2.length bc3, .slice b4 q.q2.length bc4]) rfl rfl rfl (by kernel_rfl) hS 0 rfl rfl rfl) 0 rfl rfl rfl rfl ?_
        intro w52 hS
        refine seq_end ?_
        refine hK49 _ _ ?_
        refine wp_seq_k (fun K53 hK53 => ?_)
        refine wp_region_lit ?_
        refine seq_do (v := .agg #[.bool q.b1, .slice b1 q.t1.length bc1, .slice b2 q.q1.length bc2, .bool q.b2, .slice b3 q.t2.length bc3, .slice b4 q.q2.length bc4]) hA rfl rfl rfl (does_loadS hS ExO_isS_26 rfl 0 rfl (cs := [.bool q.b1, .slice b1 q.t1.length bc1, .slice b2 q.q1.length bc2, .bool q.b2, .slice b3 q.t2.length bc3, .slice b4 q.q2.length bc4]) rfl rfl) ?_
        intro a hA
        rcases Bool.eq_false_or_eq_true (decide (q.t2.length = 0)) with hb54 | hb54
        · have hb54' := of_decide_eq_true hb54
          refine seq_call hA rfl rfl rfl (enters_func  rfl rfl (fun w => by kernel_rfl)) (isRealQ_any (q := q) hm hb54) ?_
          rintro _ w56 ⟨rfl, hb55⟩
          replace hS := hS.call hb55
          refine ⟨_, rfl, ?_⟩
          intro a hA
          refine seq_do (v := .bool false) hA rfl rfl rfl (does_un rfl un_not) ?_
          intro a hA
          refine seq_end ?_
          refine hK53 _ _ ?_
          refine wp_cond_false (hA.ev rfl) ?_
          refine wp_skip ?_
          refine hK48 _ _ ?_
          refine wp_region_lit ?_
          refine seq_do (v := .int .i64 2) hA rfl rfl rfl (does_bin rfl rfl (fun w => by kernel_rfl)) ?_
          intro a hA
          refine seq_do hA rfl rfl rfl (does_move rfl) ?_
          intro a hA
          refine seq_end ?_
          refine hK45 _ _ ?_
          refine rounds_k (fun K57 hK57 => ?_)
          refine wp_seq_k (fun K58 hK58 => ?_)
          refine wp_region_lit ?_
          refine seq_do (v := .bool false) hA rfl rfl rfl (does_bin rfl rfl (fun w => by kernel_rfl)) ?_
          intro a hA
          refine seq_end ?_
          refine hK58 _ _ ?_
          refine wp_seq_k (fun K59 hK59 => ?_)
          refine wp_cond_false (hA.ev rfl) ?_
          refine wp_exit ?_
          refine hK31 _ _ ?_
          refine wp_seq_k (fun K60 hK60 => ?_)
          refine wp_region_lit ?_
          refine seq_do hA rfl rfl rfl (does_assign rfl) ?_
          intro a hA
          refine seq_end ?_
          refine hK60 _ _ ?_
          refine wp_ret ?_
          refine hret _ _ ?_
          refine ends (v := .int .i64 0) hA rfl (.cons (res_tmp rfl) .nil) rfl ?_
          subst hr
          have f2 := of_decide_eq_true hb42
          have f3 := of_decide_eq_true hb54
          exact ⟨by simp [wantR2, hb13, hb25, f2, f3], hS.bel⟩
        · have hb54' := of_decide_eq_false hb54
          refine seq_call hA rfl rfl rfl (enters_func  rfl rfl (fun w => by kernel_rfl)) (isRealQ_any (q := q) hm hb54) ?_
          rintro _ w62 ⟨rfl, hb61⟩
          replace hS := hS.call hb61
          refine ⟨_, rfl, ?_⟩
          intro a hA
          refine seq_do (v := .bool true) hA rfl rfl rfl (does_un rfl un_not) ?_
          intro a hA
          refine seq_end ?_
          refine hK53 _ _ ?_
          refine wp_cond_true (hA.ev rfl) ?_
          refine wp_seq_k (fun K63 hK63 => ?_)
          refine wp_region_lit ?_
          refine seq_do hA rfl rfl rfl (does_assign rfl) ?_
          intro a hA
          refine seq_end ?_
          refine hK63 _ _ ?_
          refine wp_ret ?_
          refine hret _ _ ?_
          refine ends (v := .int .i64 10) hA rfl (.cons (res_tmp rfl) .nil) rfl ?_
          subst hr
          have f2 := of_decide_eq_true hb42
          have f3 := of_decide_eq_false hb54
          exact ⟨by simp [wantR2, hb13, hb25, f2, f3], hS.bel⟩
      · have hb42' := of_decide_eq_false hb42
        refine seq_call hA rfl rfl rfl (enters_func  rfl rfl (fun w => by kernel_rfl)) (isRealQ_any (q := p) hl hb42) ?_
        rintro _ w65 ⟨rfl, hb64⟩
        replace hS := hS.call hb64
        refine ⟨_, rfl, ?_⟩
        intro a hA
        refine seq_do (v := .bool true) hA rfl rfl rfl (does_un rfl un_not) ?_
        intro a hA
        refine seq_end ?_
        refine hK41 _ _ ?_
        refine wp_cond_true (hA.ev rfl) ?_
        refine wp_seq_k (fun K66 hK66 => ?_)
        refine wp_region_lit ?_
        refine seq_do hA rfl rfl rfl (does_assign rfl) ?_
        intro a hA
        refine seq_end ?_
        refine hK66 _ _ ?_
        refine wp_ret ?_
        refine hret _ _ ?_
        refine ends (v := .int .i64 10) hA rfl (.cons (res_tmp rfl) .nil) rfl ?_
        subst hr
        have f2 := of_decide_eq_false hb42
        exact ⟨by simp [wantR2, hb13, hb25, f2], hS.bel⟩
    · refine seq_call hA rfl rfl rfl (enters_func  rfl rfl (fun w => by kernel_rfl)) (soundQ_any (show Nm _ _ b1 bc1 b2 bc2 b3 bc3 b4 bc4 from ⟨⟨(hS.rd 3 rfl), hb.s1.nil, hb.s1.cap⟩, ⟨(hS.rd 2 rfl), hb.s2.nil, hb.s2.cap⟩, ⟨(hS.rd 1 rfl), hb.s3.nil, hb.s3.cap⟩, ⟨(hS.rd 0 rfl), hb.s4.nil, hb.s4.cap⟩⟩) hm hb25) ?_
      rintro _ w68 ⟨rfl, hb67⟩
      replace hS := hS.call hb67
      refine ⟨_, rfl, ?_⟩
      intro a hA
      refine seq_do (v := .bool true) hA rfl rfl rfl (does_un rfl un_not) ?_
      intro a hA
      refine seq_end ?_
      refine hK24 _ _ ?_
      refine wp_cond_true (hA.ev rfl) ?_
      refine wp_seq_k (fun K69 hK69 => ?_)
      refine wp_region_lit ?_
      refine seq_do hA rfl rfl rfl (does_assign rfl) ?_
      intro a hA
      refine seq_end ?_
      refine hK69 _ _ ?_
      refine wp_ret ?_
      refine hret _ _ ?_
      refine ends (v := .int .i64 2) hA rfl (.cons (res_tmp rfl) .nil) rfl ?_
      subst hr
      exact ⟨by simp [wantR2, hb13, hb25], hS.bel⟩
  · refine seq_call hA rfl rfl rfl (enters_func  rfl rfl (fun w => by kernel_rfl)) (soundQ_any (show Nm _ _ a1 ac1 a2 ac2 a3 ac3 a4 ac4 from ⟨⟨(hS.rd 7 rfl), ha.s1.nil, ha.s1.cap⟩, ⟨(hS.rd 6 rfl), ha.s2.nil, ha.s2.cap⟩, ⟨(hS.rd 5 rfl), ha.s3.nil, ha.s3.cap⟩, ⟨(hS.rd 4 rfl), ha.s4.nil, ha.s4.cap⟩⟩) hl hb13) ?_
    rintro _ w71 ⟨rfl, hb70⟩
    replace hS := hS.call hb70
    refine ⟨_, rfl, ?_⟩
    intro a hA
    refine seq_do (v := .bool true) hA rfl rfl rfl (does_un rfl un_not) ?_
    intro a hA
    refine seq_end ?_
    refine hK12 _ _ ?_
    refine wp_cond_true (hA.ev rfl) ?_
    refine wp_seq_k (fun K72 hK72 => ?_)
    refine wp_region_lit ?_
    refine seq_do hA rfl rfl rfl (does_assign rfl) ?_
    intro a hA
    refine seq_end ?_
    refine hK72 _ _ ?_
    refine wp_ret ?_
    refine hret _ _ ?_
    refine ends (v := .int .i64 2) hA rfl (.cons (res_tmp rfl) .nil) rfl ?_
    subst hr
    exact ⟨by simp [wantR2, hb13], hS.bel⟩
end Go.Proofs.YthlkbnhbmfmchaaGreat
