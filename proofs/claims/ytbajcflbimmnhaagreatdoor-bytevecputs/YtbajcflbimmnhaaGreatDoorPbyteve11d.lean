/- Walks of the document's shifts, of lengths, of opposites less one, and of questions of sameness. How many bits of a number are 1. Walks of how many bits are 1. Rows of bits put together word by word. Walks of rows of bits put together. Numbers put together bit by bit. Walks of numbers put together bit by bit, and of Not. The fixed fact on bits. Walks of the fixed fact, and of sameness by the document. Rows of two's complement, as the document has them. Walks of the document's rows of two's complement. Walks of the document's And, Or, Xor and Not. Walks of the law on shifts. Walks of the law on And, Or, Xor and Not. Fields of bits. Walks of fields of bits. Sound numbers as pairs of rational numbers. Operators on texts. The numbers are a field. Quotients of whole numbers, downwards, and the order of rational ones. Quotient and rest of real numbers. Facts of the order of real numbers. And, Or, Xor and Not as whole numbers. Powers of numbers. Shifts and fields of bits as products, quotients and rests. Numbers that come in as arguments. -/
import Derived.Test.YtbajcflbimmnhaaGreatDoorPbyteve11c
import Derived.Test.YtbajcflbimmnhaaGreatDoorBits
import Derived.Test.YtbajcflbimmnhaaGreatDoorBiTrim
import Derived.Test.YtbajcflbimmnhaaGreatDoorNatF
import Derived.Test.YtbajcflbimmnhaaGreatDoorTxtD
import Derived.Test.YtbajcflbimmnhaaGreatDoorArgs
import Derived.WalkKit
import Derived.ProofKit
import Derived.OpenShut
import Derived.ChangeOld
import Derived.Lib.SmallJoins
import Derived.Deep.Strs
namespace Go.Proofs.YtbajcflbimmnhaaGreatDoor
open Go.RowKit
set_option linter.unusedVariables false
set_option linter.unusedSimpArgs false
set_option maxRecDepth 100000
theorem BiF_isS_25 : IsS Tryz.prog 25 3 := ⟨⟨_, Tryz.underlying25⟩, by kernel_rfl⟩
theorem BiF_isS_27 : IsS Tryz.prog 27 6 := ⟨⟨_, Tryz.underlying27⟩, by kernel_rfl⟩
theorem rzero_any (w : World) : Calls Tryz.prog 35 #[] w (AnsF w false [] [1]) := by
 have hS : St w w [] [] [] := St.start w
 refine walk_of (l := []) Tryz.func35 rfl Tryz.ntmps35 rfl rfl ?_
 intro Q hret hnorm hP a hA
 refine wp_seq_k (fun K1 hK1 => ?_)
 refine wp_region_lit ?_
 refine seq_new (vs := [.bool false, .slice none 0 0, .slice none 0 0]) (t := 25) hA hS rfl rfl rfl (fun g => .pointer (some ⟨g, 0, none⟩)) (does_alloc (z := .agg #[.bool false, .slice none 0 0, .slice none 0 0]) (by kernel_rfl) rfl) rfl ?_
 intro g2 w3 hS a hA
 refine seq_end ?_
 refine hK1 _ _ ?_
 refine wp_seq_k (fun K4 hK4 => ?_)
 refine wp_region_lit ?_
 refine seq_newU (us := [1]) (t := 57) (m := 1) hA hS rfl rfl rfl (does_buildSlice rfl (by kernel_rfl)) (by simp [Dig]) ?_
 intro g5 w6 hS a hA
 refine seq_do (v := .agg #[.bool false, .slice none 0 0, .slice (some ⟨g5, 0, none⟩) 1 1]) hA rfl rfl rfl (does_build rfl (fun w => by kernel_rfl)) fun a hA => ?_
 refine seq_store (us := [.bool false, .slice none 0 0, .slice (some ⟨g5, 0, none⟩) 1 1]) hA hS rfl rfl (sets_store rfl rfl rfl (by kernel_rfl) hS 0 rfl rfl rfl) 0 rfl rfl rfl rfl ?_
 intro w7 hS
 refine seq_end ?_
 refine hK4 _ _ ?_
 refine wp_ret ?_
 refine hret _ _ ?_
 refine ends (v := .agg #[.bool false, .slice none 0 0, .slice (some ⟨g5, 0, none⟩) 1 1]) hA rfl (.cons (res_cell hS BiF_isS_25 rfl 0 rfl (cs := [.bool false, .slice none 0 0, .slice (some ⟨g5, 0, none⟩) 1 1]) rfl rfl) .nil) rfl ?_
 exact ⟨none, 0, some ⟨g5, 0, none⟩, 1, rfl, (Sc.none _), ⟨(hS.rd 0 rfl), (fun h => by cases h), (Nat.le_refl _)⟩, hS.bel⟩
theorem lengthPE_any {w : World} {q : Q6} {a1 a2 a3 a4 : Option Addr} {ac1 ac2 ac3 ac4 : Nat} (ha : Nm w q a1 ac1 a2 ac2 a3 ac3 a4 ac4) (hl : LenQ q)  (hw : (want1 q != 0) = true) : Calls Tryz.prog 28 #[numV q a1 ac1 a2 ac2 a3 ac3 a4 ac4] w (AnsII w (lengthQ q)) := by
 have hS : St w w [] [(a4, q.q2), (a3, q.t2), (a2, q.q1), (a1, q.t1)] [] := ((((St.start w).addR ha.s1.rd).addR ha.s2.rd).addR ha.s3.rd).addR ha.s4.rd
 refine walk_of (l := [(0, .agg #[.bool q.b1, .slice a1 q.t1.length ac1, .slice a2 q.q1.length ac2, .bool q.b2, .slice a3 q.t2.length ac3, .slice a4 q.q2.length ac4])]) Tryz.func28 rfl Tryz.ntmps28 rfl rfl ?_
 intro Q hret hnorm hP a hA
 refine wp_seq_k (fun K1 hK1 => ?_)
 refine wp_region_lit ?_
 refine seq_new hA hS rfl rfl rfl (fun g => .pointer (some ⟨g, 0, none⟩)) (does_box rfl rfl) rfl ?_
 intro g2 w3 hS a hA
 refine seq_do hA rfl rfl rfl (does_assign rfl) fun a hA => ?_
 refine seq_do hA rfl rfl rfl (does_assign rfl) fun a hA => ?_
 refine seq_end ?_
 refine hK1 _ _ ?_
 refine wp_seq_k (fun K4 hK4 => ?_)
 refine wp_seq_k (fun K5 hK5 => ?_)
 refine wp_region_lit ?_
 refine seq_do hA rfl rfl rfl (does_loadS hS BiF_isS_27 rfl 0 rfl (cs := [.bool q.b1, .slice a1 q.t1.length ac1, .slice a2 q.q1.length ac2, .bool q.b2, .slice a3 q.t2.length ac3, .slice a4 q.q2.length ac4]) rfl rfl) fun a hA => ?_
 refine seq_new (vs := [.bool q.b1, .slice a1 q.t1.length ac1, .slice a2 q.q1.length ac2, .bool q.b2, .slice a3 q.t2.length ac3, .slice a4 q.q2.length ac4]) (t := 27) hA hS rfl rfl rfl (fun g => .slice (some ⟨g, 0, none⟩) 1 1) (does_buildSlice rfl (by kernel_rfl)) rfl ?_
 intro g6 w7 hS a hA
 refine seq_call hA rfl rfl rfl (enters_func  rfl rfl (fun w => by kernel_rfl)) (want1_any (show Nm _ q a1 ac1 a2 ac2 a3 ac3 a4 ac4 from ⟨⟨(hS.rd 3 rfl), ha.s1.nil, ha.s1.cap⟩, ⟨(hS.rd 2 rfl), ha.s2.nil, ha.s2.cap⟩, ⟨(hS.rd 1 rfl), ha.s3.nil, ha.s3.cap⟩, ⟨(hS.rd 0 rfl), ha.s4.nil, ha.s4.cap⟩⟩) hl (hS.blk 0 rfl) rfl) ?_
 rintro _ w9 ⟨rfl, hb8⟩
 replace hS := hS.call hb8
 refine ⟨_, rfl, ?_⟩
 intro a hA
 refine seq_do hA rfl rfl rfl (does_assign rfl) fun a hA => ?_
 refine seq_end ?_
 refine hK5 _ _ ?_
 refine wp_seq_k (fun K10 hK10 => ?_)
 refine wp_region_lit ?_
 refine seq_do hA rfl rfl rfl (does_move rfl) fun a hA => ?_
 refine seq_do (v := .bool true) hA rfl rfl rfl (does_bin rfl rfl (fun w => (bin_neq w).trans (by rw [show ((want1 q != 0)) = true from hw]))) fun a hA => ?_
 refine seq_end ?_
 refine hK10 _ _ ?_
 refine wp_cond_true (hA.ev rfl) ?_
 refine wp_seq_k (fun K11 hK11 => ?_)
 refine wp_region_lit ?_
 refine seq_do hA rfl rfl rfl (does_move rfl) fun a hA => ?_
 refine seq_do hA rfl rfl rfl (does_assign rfl) fun a hA => ?_
 refine seq_do hA rfl rfl rfl (does_assign rfl) fun a hA => ?_
 refine seq_end ?_
 refine hK11 _ _ ?_
 refine wp_ret ?_
 refine hret _ _ ?_
 refine ends (v := .tuple #[.int .i64 0, .int .i64 (want1 q)]) hA rfl (.cons (res_tmp rfl) (.cons (res_tmp rfl) .nil)) rfl ?_
 rw [lengthQ_err hw]
 exact ⟨rfl, hS.bel⟩
theorem lengthPW_any {w : World} {b : Bool} {x : Nat} {a1 a2 a3 a4 : Option Addr} {ac1 ac2 ac3 ac4 : Nat} (ha : Nm w (Q6.whole b x) a1 ac1 a2 ac2 a3 ac3 a4 ac4) (hl : LenQ (Q6.whole b x))  (hw : want1 (Q6.whole b x) = 0) (hx : (words x).length ≤ 512) (hb : b.toNat ≤ x) : Calls Tryz.prog 28 #[numV (Q6.whole b x) a1 ac1 a2 ac2 a3 ac3 a4 ac4] w (AnsII w (lengthQ (Q6.whole b x))) := by
 have hS : St w w [] [(a4, [1]), (a3, []), (a2, [1]), (a1, words x)] [] := ((((St.start w).addR ha.s1.rd).addR ha.s2.rd).addR ha.s3.rd).addR ha.s4.rd
 refine walk_of (l := [(0, .agg #[.bool b, .slice a1 ((words x).length) ac1, .slice a2 1 ac2, .bool false, .slice a3 0 ac3, .slice a4 1 ac4])]) Tryz.func28 rfl Tryz.ntmps28 rfl rfl ?_
 intro Q hret hnorm hP a hA
 refine wp_seq_k (fun K1 hK1 => ?_)
 refine wp_region_lit ?_
 refine seq_new hA hS rfl rfl rfl (fun g => .pointer (some ⟨g, 0, none⟩)) (does_box rfl rfl) rfl ?_
 intro g2 w3 hS a hA
 refine seq_do hA rfl rfl rfl (does_assign rfl) fun a hA => ?_
 refine seq_do hA rfl rfl rfl (does_assign rfl) fun a hA => ?_
 refine seq_end ?_
 refine hK1 _ _ ?_
 refine wp_seq_k (fun K4 hK4 => ?_)
 refine wp_seq_k (fun K5 hK5 => ?_)
 refine wp_region_lit ?_
 refine seq_do hA rfl rfl rfl (does_loadS hS BiF_isS_27 rfl 0 rfl (cs := [.bool b, .slice a1 ((words x).length) ac1, .slice a2 1 ac2, .bool false, .slice a3 0 ac3, .slice a4 1 ac4]) rfl rfl) fun a hA => ?_
 refine seq_new (vs := [.bool b, .slice a1 ((words x).length) ac1, .slice a2 1 ac2, .bool false, .slice a3 0 ac3, .slice a4 1 ac4]) (t := 27) hA hS rfl rfl rfl (fun g => .slice (some ⟨g, 0, none⟩) 1 1) (does_buildSlice rfl (by kernel_rfl)) rfl ?_
 intro g6 w7 hS a hA
 refine seq_call hA rfl rfl rfl (enters_func  rfl rfl (fun w => by kernel_rfl)) (want1_any (show Nm _ (Q6.whole b x) a1 ac1 a2 ac2 a3 ac3 a4 ac4 from ⟨⟨(hS.rd 3 rfl), ha.s1.nil, ha.s1.cap⟩, ⟨(hS.rd 2 rfl), ha.s2.nil, ha.s2.cap⟩, ⟨(hS.rd 1 rfl), ha.s3.nil, ha.s3.cap⟩, ⟨(hS.rd 0 rfl), ha.s4.nil, ha.s4.cap⟩⟩) hl (hS.blk 0 rfl) hw) ?_
 rintro _ w9 ⟨rfl, hb8⟩
 replace hS := hS.call hb8
 refine ⟨_, rfl, ?_⟩
 intro a hA
 refine seq_do hA rfl rfl rfl (does_assign rfl) fun a hA => ?_
 refine seq_end ?_
 refine hK5 _ _ ?_
 refine wp_seq_k (fun K10 hK10 => ?_)
 refine wp_region_lit ?_
 refine seq_do hA rfl rfl rfl (does_move rfl) fun a hA => ?_
 refine seq_do (v := .bool false) hA rfl rfl rfl (does_bin rfl rfl (fun w => by kernel_rfl)) fun a hA => ?_
 refine seq_end ?_
 refine hK10 _ _ ?_
 refine wp_cond_false (hA.ev rfl) ?_
 refine wp_skip ?_
 refine hK4 _ _ ?_
 refine wp_seq_k (fun K11 hK11 => ?_)
 refine wp_region_lit ?_
 refine seq_do hA rfl rfl rfl (does_loadS hS BiF_isS_27 rfl 1 rfl (cs := [.bool b, .slice a1 ((words x).length) ac1, .slice a2 1 ac2, .bool false, .slice a3 0 ac3, .slice a4 1 ac4]) rfl rfl) fun a hA => ?_
 refine seq_call hA rfl rfl rfl (enters_func  rfl rfl (fun w => by kernel_rfl)) (rowOf_any (show Nm _ (Q6.whole b x) a1 ac1 a2 ac2 a3 ac3 a4 ac4 from ⟨⟨(hS.rd 3 rfl), ha.s1.nil, ha.s1.cap⟩, ⟨(hS.rd 2 rfl), ha.s2.nil, ha.s2.cap⟩, ⟨(hS.rd 1 rfl), ha.s3.nil, ha.s3.cap⟩, ⟨(hS.rd 0 rfl), ha.s4.nil, ha.s4.cap⟩⟩) hx hb) ?_
 rintro _ w16 ⟨ro12, rc13, rfl, hs14, hb15⟩
 replace hS := hS.call hb15
 replace hS := hS.addR hs14.rd
 refine ⟨_, rfl, ?_⟩
 intro a hA
 refine seq_do (v := .slice ro12 ((words (x - b.toNat)).length) rc13) hA rfl rfl rfl (does_fieldV rfl (fun w => by kernel_rfl)) fun a hA => ?_
 refine seq_call hA rfl rfl rfl (enters_func  rfl rfl (fun w => by kernel_rfl)) (bitsW_any _ (hS.rd 0 rfl) (Nat.le_trans (words_mono (Nat.sub_le x b.toNat)) hx)) ?_
 rintro _ w18 ⟨rfl, hb17⟩
 replace hb17 := below_eq hb17
 replace hS := hS.call hb17
 refine ⟨_, rfl, ?_⟩
 intro a hA
 refine seq_do hA rfl rfl rfl (does_assign rfl) fun a hA => ?_
 refine seq_do hA rfl rfl rfl (does_assign rfl) fun a hA => ?_
 refine seq_end ?_
 refine hK11 _ _ ?_
 refine wp_ret ?_
 refine hret _ _ ?_
 refine ends (v := .tuple #[.int .i64 (((bl (x - b.toNat) : Nat) : Int)), .int .i64 0]) hA rfl (.cons (res_tmp rfl) (.cons (res_tmp rfl) .nil)) rfl ?_
 rw [lengthQ_whole hw]
 exact ⟨rfl, hS.bel⟩
end Go.Proofs.YtbajcflbimmnhaaGreatDoor
namespace Go.Proofs.YtbajcflbimmnhaaGreatDoor
open Go.RowKit
set_option linter.unusedVariables false
set_option linter.unusedSimpArgs false

section
variable {P : Program} {l : List (Nat × Value)} {dst : Option Tmp} {ty t : TypeId} {pos : String} {after : Array Edge} {guard : Option (Nat × Bool)} {w : World} {x y : Operand}
theorem does_indexS {s : ByteArray} {i m : Nat} (hu : P.underlying t = some .string) (hx : ev l x = some (.string s)) (hi : ev l y = some (.int .u32 ((i : Nat) : Int))) (ht : (s[i]?).map (·.toNat) = some m) :
    Does P l ⟨dst, .index t x y, ty, pos, after, guard⟩ w (.int .u8 ((m : Nat) : Int)) w := fun ρ h => by
  cases hs : s[i]? with
  | none => rw [hs] at ht; cases ht
  | some b =>
    rw [hs] at ht
    simp only [Option.map_some, Option.some.injEq] at ht
    subst ht
    simp [execOp, h x _ hx, h y _ hi, Instr.index, run_underlying hu, asIntOf, go_sem, hs]
end
end Go.Proofs.YtbajcflbimmnhaaGreatDoor
namespace Go.Proofs.YtbajcflbimmnhaaGreatDoor
open Go.RowKit
set_option linter.unusedVariables false
set_option linter.unusedSimpArgs false
set_option maxRecDepth 100000


end Go.Proofs.YtbajcflbimmnhaaGreatDoor
namespace Go.Proofs.YtbajcflbimmnhaaGreatDoor
open Go.RowKit
set_option linter.unusedVariables false
set_option linter.unusedSimpArgs false

/-- The word at i of a row without end. -/
def rwd (b : Bool) (y i : Nat) : Nat := (y / pw i % 4294967296) ^^^ (b.toNat * 4294967295)
theorem ends_lt (b : Bool) : b.toNat * 4294967295 < 4294967296 := by cases b <;> decide
theorem rwd_lt (b : Bool) (y i : Nat) : rwd b y i < 4294967296 := Nat.xor_lt_two_pow (n := 32) (Nat.mod_lt _ (by decide)) (ends_lt b)
theorem rwd_end {b : Bool} {y i : Nat} (h : (words y).length ≤ i) : rwd b y i = b.toNat * 4294967295 := by
  unfold rwd
  rw [div_words_length y i h, Nat.zero_mod, Nat.zero_xor]
section
variable {fop : Nat → Nat → Nat} {fb : Bool → Bool → Bool} {b1 b2 : Bool} {y1 y2 : Nat}
end
theorem btrimN_any {B : Nat} {w : World} {ao : Option Addr} {cap n : Nat} {l : List Nat} (h : Own B w ao cap l) (hn : l.length = n) (hl : n ≤ 1000000) :
    Calls Tryz.prog 79 #[.slice ao n cap] w fun e w' => e = .returned (.slice ao (words (val l)).length cap) ∧ Own B w ao cap (words (val l)) ∧ w' = w := by
  subst hn
  exact btrim_any h hl
section
variable {P : Program} {t : TypeId} {a b : Operand} {x y : Nat}
theorem bin_and (hx : x < 4294967296) (hy : y < 4294967296) : ∀ w, (do eqGuard .and t a b (.int .u32 ((x : Nat) : Int)) (.int .u32 ((y : Nat) : Int)); binOp .and t (.int .u32 ((x : Nat) : Int)) (.int .u32 ((y : Nat) : Int)) : Sem Value).run P w = .ok (.int .u32 ((x &&& y : Nat) : Int)) w := fun w => by
  simp [go_sem, and_u32 x y hx hy]
theorem bin_xor {z : Nat} (hx : x < 4294967296) (hy : y < 4294967296) (hz : x ^^^ y = z) : ∀ w, (do eqGuard .xor t a b (.int .u32 ((x : Nat) : Int)) (.int .u32 ((y : Nat) : Int)); binOp .xor t (.int .u32 ((x : Nat) : Int)) (.int .u32 ((y : Nat) : Int)) : Sem Value).run P w = .ok (.int .u32 ((z : Nat) : Int)) w := fun w => by
  subst hz
  simp [go_sem, xor_u32 x y hx hy]
end
end Go.Proofs.YtbajcflbimmnhaaGreatDoor
namespace Go.Proofs.YtbajcflbimmnhaaGreatDoor
open Go.RowKit
set_option linter.unusedVariables false
set_option linter.unusedSimpArgs false
set_option maxRecDepth 100000
theorem BiH_is1_23 : Is1 Tryz.prog 23 := ⟨⟨_, Tryz.underlying23, rfl⟩, by kernel_rfl⟩
theorem BiH_is1_57 : Is1 Tryz.prog 57 := ⟨⟨_, Tryz.underlying57, rfl⟩, by kernel_rfl⟩
theorem BiH_fld_75_1 : FieldAt Tryz.prog 75 1 1 := ⟨_, _, Tryz.underlying75, rfl, rfl, by kernel_rfl⟩
theorem BiH_isS_75 : IsS Tryz.prog 75 2 := ⟨⟨_, Tryz.underlying75⟩, by kernel_rfl⟩
theorem rwordAt_any {w : World} {b : Bool} {ro : Option Addr} {rc y i : Nat} (hr : Rd w ro (words y)) (hy : (words y).length ≤ 100000) : Calls Tryz.prog 78 #[.agg #[.bool b, .slice ro (words y).length rc], .int .i64 ((i : Nat) : Int)] w fun e w' => e = .returned (.int .u32 ((rwd b y i : Nat) : Int)) ∧ Below w.heap.size w w' := by
 have hS : St w w [] [(ro, words y)] [] := (St.start w).addR hr
 refine walk_of (l := [(0, .agg #[.bool b, .slice ro ((words y).length) rc]), (1, .int .i64 (((i : Nat) : Int)))]) Tryz.func78 rfl Tryz.ntmps78 rfl rfl ?_
 intro Q hret hnorm hP a hA
 refine wp_seq_k (fun K1 hK1 => ?_)
 refine wp_region_lit ?_
 refine seq_new hA hS rfl rfl rfl (fun g => .pointer (some ⟨g, 0, none⟩)) (does_box rfl rfl) rfl ?_
 intro g2 w3 hS a hA
 refine seq_do hA rfl rfl rfl (does_assign rfl) fun a hA => ?_
 refine seq_end ?_
 refine hK1 _ _ ?_
 refine wp_seq_k (fun K4 hK4 => ?_)
 refine wp_seq_k (fun K5 hK5 => ?_)
 refine wp_region_lit ?_
 refine seq_do hA rfl rfl rfl (does_move rfl) fun a hA => ?_
 refine seq_do (v := .pointer (some ⟨g2, 1, none⟩)) hA rfl rfl rfl (does_field BiH_fld_75_1 rfl rfl) fun a hA => ?_
 refine seq_do hA rfl rfl rfl (does_load1 hS BiH_is1_23 rfl 0 rfl rfl) fun a hA => ?_
 refine seq_do (v := .int .i64 ((((words y).length : Nat) : Int))) hA rfl rfl rfl (does_len Tryz.underlying23 rfl) fun a hA => ?_
 rcases Bool.eq_false_or_eq_true (decide ((((words y).length : Nat) : Int) ≤ ((i : Nat) : Int))) with hb6 | hb6
 ·
  have hb6' := of_decide_eq_true hb6
  refine seq_do (v := .bool true) hA rfl rfl rfl (does_bin rfl rfl (fun w => (bin_geq w).trans (by rw [hb6]))) fun a hA => ?_
  refine seq_end ?_
  refine hK5 _ _ ?_
  refine wp_cond_true (hA.ev rfl) ?_
  refine wp_seq_k (fun K7 hK7 => ?_)
  refine wp_region_lit ?_
  refine seq_do hA rfl rfl rfl (does_loadS hS BiH_isS_75 rfl 0 rfl (cs := [.bool b, .slice ro ((words y).length) rc]) rfl rfl) fun a hA => ?_
  refine seq_call hA rfl rfl rfl (enters_func  rfl rfl (fun w => by kernel_rfl)) (endless_any) ?_
  rintro _ w9 ⟨rfl, hb8⟩
  replace hS := hS.call hb8
  refine ⟨_, rfl, ?_⟩
  intro a hA
  refine seq_do hA rfl rfl rfl (does_assign rfl) fun a hA => ?_
  refine seq_end ?_
  refine hK7 _ _ ?_
  refine wp_ret ?_
  refine hret _ _ ?_
  refine ends (v := .int .u32 (((b.toNat * 4294967295 : Nat) : Int))) hA rfl (.cons (res_tmp rfl) .nil) rfl ?_
  rw [rwd_end (by omega)]
  exact ⟨rfl, hS.bel⟩
 ·
  have hb6' := of_decide_eq_false hb6
  refine seq_do (v := .bool false) hA rfl rfl rfl (does_bin rfl rfl (fun w => (bin_geq w).trans (by rw [hb6]))) fun a hA => ?_
  refine seq_end ?_
  refine hK5 _ _ ?_
  refine wp_cond_false (hA.ev rfl) ?_
  refine wp_skip ?_
  refine hK4 _ _ ?_
  refine wp_seq_k (fun K10 hK10 => ?_)
  refine wp_draw (S := fun w1 => St w w1 [(g2, [.bool b, .slice ro ((words y).length) rc])] [(ro, words y)] []) (by kernel_rfl) ?_
  replace hS := hS.drew
  refine any_tk (v := .pointer (some ⟨g2, 1, none⟩)) hA 0 rfl rfl rfl rfl hP hS (fun w1 hS => does_field BiH_fld_75_1 rfl rfl) fun a hA => ?_
  refine any_tk hA 1 rfl rfl rfl rfl hP hS (fun w1 hS => does_load1 hS BiH_is1_23 rfl 0 rfl rfl) fun a hA => ?_
  refine any_tk hA 2 rfl rfl rfl rfl hP hS (fun w1 hS => does_move rfl) fun a hA => ?_
  have hi14 : i < (words y).length := by first | omega | (simp only [List.length_set]; omega)
  obtain ⟨b11, f12, hso13⟩ := Rd.addr (hS.rd 0 rfl) hi14
  refine any_tk (v := .pointer (some ⟨b11, f12 + i, none⟩)) hA 3 rfl rfl rfl rfl hP hS (fun w1 hS => does_indexRow (k := i) Tryz.underlying23 (by kernel_rfl) rfl rfl (by omega) hso13 hi14) fun a hA => ?_
  refine any_tk (v := .int .u32 ((((words y).getD i 0 : Nat) : Int))) hA 4 rfl rfl rfl rfl hP hS (fun w1 hS => does_loadRow (hS.rd 0 rfl) hso13 hi14 BiH_is1_57 rfl) fun a hA => ?_
  refine any_tk hA 5 rfl rfl rfl rfl hP hS (fun w1 hS => does_loadS hS BiH_isS_75 rfl 0 rfl (cs := [.bool b, .slice ro ((words y).length) rc]) rfl rfl) fun a hA => ?_
  refine any_one (by kernel_rfl) (op_call hA 6 rfl rfl rfl rfl (enters_func  rfl rfl (fun w => by kernel_rfl)) (endless_any) ?_)
  rintro _ w16 ⟨rfl, hb15⟩
  replace hS := hS.call hb15
  refine ⟨_, rfl, hS, ?_⟩
  intro a hA
  refine any_tk (v := .int .u32 (((rwd b y i : Nat) : Int))) hA 7 rfl rfl rfl rfl hP hS (fun w1 hS => does_bin rfl rfl (bin_xor (by rw [words_getD]; exact Nat.mod_lt _ (by decide)) (ends_lt b) (by rw [words_getD]; rfl))) fun a hA => ?_
  refine any_tk hA 8 rfl rfl rfl rfl hP hS (fun w1 hS => does_assign rfl) fun a hA => ?_
  refine any_end (by kernel_rfl) ?_
  refine hK10 _ _ ?_
  refine wp_ret ?_
  refine hret _ _ ?_
  refine ends (v := .int .u32 (((rwd b y i : Nat) : Int))) hA rfl (.cons (res_tmp rfl) .nil) rfl ?_
  exact ⟨rfl, hS.bel⟩
end Go.Proofs.YtbajcflbimmnhaaGreatDoor
namespace Go.Proofs.YtbajcflbimmnhaaGreatDoor
open Go.RowKit
set_option linter.unusedVariables false
set_option linter.unusedSimpArgs false

theorem sub_len {b : Bool} {x k : Nat} (h : (words x).length ≤ k) : (words (x - b.toNat)).length ≤ k := Nat.le_trans (words_mono (Nat.sub_le x b.toNat)) h
end Go.Proofs.YtbajcflbimmnhaaGreatDoor
namespace Go.Proofs.YtbajcflbimmnhaaGreatDoor
open Go.RowKit
set_option linter.unusedVariables false
set_option linter.unusedSimpArgs false
set_option maxRecDepth 100000
theorem BiJ_isS_27 : IsS Tryz.prog 27 6 := ⟨⟨_, Tryz.underlying27⟩, by kernel_rfl⟩
/-- A number is told by its parts: whole, or refused. -/
theorem wholeOf {q : Q6} {w : World} {a1 a2 a3 a4 : Option Addr} {ac1 ac2 ac3 ac4 : Nat} (ha : Nm w q a1 ac1 a2 ac2 a3 ac3 a4 ac4) (h : wholeQ q = true) : ∃ b x, q = Q6.whole b x ∧ (words x).length ≤ 512 ∧ b.toNat ≤ x := by
 obtain ⟨x, h1, h2, h3⟩ := whole_form ha.s1.rd.dig ha.s4.rd.dig h
 exact ⟨q.b1, x, h1, h2, h3⟩
theorem notW_any {w : World} {b : Bool} {x : Nat} {a1 a2 a3 a4 : Option Addr} {ac1 ac2 ac3 ac4 : Nat} (ha : Nm w (Q6.whole b x) a1 ac1 a2 ac2 a3 ac3 a4 ac4) (hl : LenQ (Q6.whole b x))  (hw : want1 (Q6.whole b x) = 0) (hx : (words x).length ≤ 512) (hb : b.toNat ≤ x) : Calls Tryz.prog 42 #[numV (Q6.whole b x) a1 ac1 a2 ac2 a3 ac3 a4 ac4] w (AnsN w (notQ (Q6.whole b x))) := by
 have hS : St w w [] [(a4, [1]), (a3, []), (a2, [1]), (a1, words x)] [] := ((((St.start w).addR ha.s1.rd).addR ha.s2.rd).addR ha.s3.rd).addR ha.s4.rd
 refine walk_of (l := [(0, .agg #[.bool b, .slice a1 ((words x).length) ac1, .slice a2 1 ac2, .bool false, .slice a3 0 ac3, .slice a4 1 ac4])]) Tryz.func42 rfl Tryz.ntmps42 rfl rfl ?_
 intro Q hret hnorm hP a hA
 refine wp_seq_k (fun K1 hK1 => ?_)
 refine wp_region_lit ?_
 refine seq_new hA hS rfl rfl rfl (fun g => .pointer (some ⟨g, 0, none⟩)) (does_box rfl rfl) rfl ?_
 intro g2 w3 hS a hA
 refine seq_new (vs := [.bool false, .slice none 0 0, .slice none 0 0, .bool false, .slice none 0 0, .slice none 0 0]) (t := 27) hA hS rfl rfl rfl (fun g => .pointer (some ⟨g, 0, none⟩)) (does_alloc (z := .agg #[.bool false, .slice none 0 0, .slice none 0 0, .bool false, .slice none 0 0, .slice none 0 0]) (by kernel_rfl) rfl) rfl ?_
 intro g4 w5 hS a hA
 refine seq_do hA rfl rfl rfl (does_assign rfl) fun a hA => ?_
 refine seq_end ?_
 refine hK1 _ _ ?_
 refine wp_seq_k (fun K6 hK6 => ?_)
 refine wp_seq_k (fun K7 hK7 => ?_)
 refine wp_region_lit ?_
 refine seq_do hA rfl rfl rfl (does_loadS hS BiJ_isS_27 rfl 1 rfl (cs := [.bool b, .slice a1 ((words x).length) ac1, .slice a2 1 ac2, .bool false, .slice a3 0 ac3, .slice a4 1 ac4]) rfl rfl) fun a hA => ?_
 refine seq_new (vs := [.bool b, .slice a1 ((words x).length) ac1, .slice a2 1 ac2, .bool false, .slice a3 0 ac3, .slice a4 1 ac4]) (t := 27) hA hS rfl rfl rfl (fun g => .slice (some ⟨g, 0, none⟩) 1 1) (does_buildSlice rfl (by kernel_rfl)) rfl ?_
 intro g8 w9 hS a hA
 refine seq_call hA rfl rfl rfl (enters_func  rfl rfl (fun w => by kernel_rfl)) (want1_any (show Nm _ (Q6.whole b x) a1 ac1 a2 ac2 a3 ac3 a4 ac4 from ⟨⟨(hS.rd 3 rfl), ha.s1.nil, ha.s1.cap⟩, ⟨(hS.rd 2 rfl), ha.s2.nil, ha.s2.cap⟩, ⟨(hS.rd 1 rfl), ha.s3.nil, ha.s3.cap⟩, ⟨(hS.rd 0 rfl), ha.s4.nil, ha.s4.cap⟩⟩) hl (hS.blk 0 rfl) hw) ?_
 rintro _ w11 ⟨rfl, hb10⟩
 replace hS := hS.call hb10
 refine ⟨_, rfl, ?_⟩
 intro a hA
 refine seq_do hA rfl rfl rfl (does_assign rfl) fun a hA => ?_
 refine seq_end ?_
 refine hK7 _ _ ?_
 refine wp_seq_k (fun K12 hK12 => ?_)
 refine wp_region_lit ?_
 refine seq_do hA rfl rfl rfl (does_move rfl) fun a hA => ?_
 refine seq_do (v := .bool false) hA rfl rfl rfl (does_bin rfl rfl (fun w => by kernel_rfl)) fun a hA => ?_
 refine seq_end ?_
 refine hK12 _ _ ?_
 refine wp_cond_false (hA.ev rfl) ?_
 refine wp_skip ?_
 refine hK6 _ _ ?_
 refine wp_seq_k (fun K13 hK13 => ?_)
 refine wp_region_lit ?_
 refine seq_do hA rfl rfl rfl (does_loadS hS BiJ_isS_27 rfl 2 rfl (cs := [.bool b, .slice a1 ((words x).length) ac1, .slice a2 1 ac2, .bool false, .slice a3 0 ac3, .slice a4 1 ac4]) rfl rfl) fun a hA => ?_
 refine seq_call hA rfl rfl rfl (enters_func  rfl rfl (fun w => by kernel_rfl)) (rowOf_any (show Nm _ (Q6.whole b x) a1 ac1 a2 ac2 a3 ac3 a4 ac4 from ⟨⟨(hS.rd 3 rfl), ha.s1.nil, ha.s1.cap⟩, ⟨(hS.rd 2 rfl), ha.s2.nil, ha.s2.cap⟩, ⟨(hS.rd 1 rfl), ha.s3.nil, ha.s3.cap⟩, ⟨(hS.rd 0 rfl), ha.s4.nil, ha.s4.cap⟩⟩) hx hb) ?_
 rintro _ w18 ⟨ro14, rc15, rfl, hs16, hb17⟩
 replace hS := hS.call hb17
 replace hS := hS.addR hs16.rd
 refine ⟨_, rfl, ?_⟩
 intro a hA
 refine seq_call hA rfl rfl rfl (enters_func  rfl rfl (fun w => by kernel_rfl)) (turned_any) ?_
 rintro _ w20 ⟨rfl, hb19⟩
 replace hS := hS.call hb19
 refine ⟨_, rfl, ?_⟩
 intro a hA
 refine seq_call hA rfl rfl rfl (enters_func  rfl rfl (fun w => by kernel_rfl)) (number_any (b := !b) ⟨(hS.rd 0 rfl), hs16.nil, hs16.cap⟩ (sub_len hx)) ?_
 rintro _ w24 ⟨p21_1, p21_c1, p21_2, p21_c2, p21_3, p21_c3, p21_4, p21_c4, rfl, hn22, hb23⟩
 replace hS := hS.call hb23
 replace hS := hS.addR hn22.s1.rd
 replace hS := hS.addR hn22.s2.rd
 replace hS := hS.addR hn22.s3.rd
 replace hS := hS.addR hn22.s4.rd
 refine ⟨_, rfl, ?_⟩
 intro a hA
 refine seq_do (v := .agg #[.bool ((bigS (!b) (x - b.toNat + (!b).toNat)).1.b1), .slice p21_1 (((bigS (!b) (x - b.toNat + (!b).toNat)).1.t1).length) p21_c1, .slice p21_2 (((bigS (!b) (x - b.toNat + (!b).toNat)).1.q1).length) p21_c2, .bool ((bigS (!b) (x - b.toNat + (!b).toNat)).1.b2), .slice p21_3 (((bigS (!b) (x - b.toNat + (!b).toNat)).1.t2).length) p21_c3, .slice p21_4 (((bigS (!b) (x - b.toNat + (!b).toNat)).1.q2).length) p21_c4]) hA rfl rfl rfl (does_extract (vs := [.agg #[.bool ((bigS (!b) (x - b.toNat + (!b).toNat)).1.b1), .slice p21_1 (((bigS (!b) (x - b.toNat + (!b).toNat)).1.t1).length) p21_c1, .slice p21_2 (((bigS (!b) (x - b.toNat + (!b).toNat)).1.q1).length) p21_c2, .bool ((bigS (!b) (x - b.toNat + (!b).toNat)).1.b2), .slice p21_3 (((bigS (!b) (x - b.toNat + (!b).toNat)).1.t2).length) p21_c3, .slice p21_4 (((bigS (!b) (x - b.toNat + (!b).toNat)).1.q2).length) p21_c4], .int .i64 ((bigS (!b) (x - b.toNat + (!b).toNat)).2)]) rfl rfl) fun a hA => ?_
 refine seq_do (v := .int .i64 ((bigS (!b) (x - b.toNat + (!b).toNat)).2)) hA rfl rfl rfl (does_extract (vs := [.agg #[.bool ((bigS (!b) (x - b.toNat + (!b).toNat)).1.b1), .slice p21_1 (((bigS (!b) (x - b.toNat + (!b).toNat)).1.t1).length) p21_c1, .slice p21_2 (((bigS (!b) (x - b.toNat + (!b).toNat)).1.q1).length) p21_c2, .bool ((bigS (!b) (x - b.toNat + (!b).toNat)).1.b2), .slice p21_3 (((bigS (!b) (x - b.toNat + (!b).toNat)).1.t2).length) p21_c3, .slice p21_4 (((bigS (!b) (x - b.toNat + (!b).toNat)).1.q2).length) p21_c4], .int .i64 ((bigS (!b) (x - b.toNat + (!b).toNat)).2)]) rfl rfl) fun a hA => ?_
 refine seq_store (us := [.bool ((bigS (!b) (x - b.toNat + (!b).toNat)).1.b1), .slice p21_1 (((bigS (!b) (x - b.toNat + (!b).toNat)).1.t1).length) p21_c1, .slice p21_2 (((bigS (!b) (x - b.toNat + (!b).toNat)).1.q1).length) p21_c2, .bool ((bigS (!b) (x - b.toNat + (!b).toNat)).1.b2), .slice p21_3 (((bigS (!b) (x - b.toNat + (!b).toNat)).1.t2).length) p21_c3, .slice p21_4 (((bigS (!b) (x - b.toNat + (!b).toNat)).1.q2).length) p21_c4]) hA hS rfl rfl (sets_store rfl rfl rfl (by kernel_rfl) hS 1 rfl rfl rfl) 1 rfl rfl rfl rfl ?_
 intro w25 hS
 refine seq_do hA rfl rfl rfl (does_assign rfl) fun a hA => ?_
 refine seq_end ?_
 refine hK13 _ _ ?_
 refine wp_ret ?_
 refine hret _ _ ?_
 refine ends (v := .tuple #[.agg #[.bool ((bigS (!b) (x - b.toNat + (!b).toNat)).1.b1), .slice p21_1 (((bigS (!b) (x - b.toNat + (!b).toNat)).1.t1).length) p21_c1, .slice p21_2 (((bigS (!b) (x - b.toNat + (!b).toNat)).1.q1).length) p21_c2, .bool ((bigS (!b) (x - b.toNat + (!b).toNat)).1.b2), .slice p21_3 (((bigS (!b) (x - b.toNat + (!b).toNat)).1.t2).length) p21_c3, .slice p21_4 (((bigS (!b) (x - b.toNat + (!b).toNat)).1.q2).length) p21_c4], .int .i64 ((bigS (!b) (x - b.toNat + (!b).toNat)).2)]) hA rfl (.cons (res_cell hS BiJ_isS_27 rfl 1 rfl (cs := [.bool ((bigS (!b) (x - b.toNat + (!b).toNat)).1.b1), .slice p21_1 (((bigS (!b) (x - b.toNat + (!b).toNat)).1.t1).length) p21_c1, .slice p21_2 (((bigS (!b) (x - b.toNat + (!b).toNat)).1.q1).length) p21_c2, .bool ((bigS (!b) (x - b.toNat + (!b).toNat)).1.b2), .slice p21_3 (((bigS (!b) (x - b.toNat + (!b).toNat)).1.t2).length) p21_c3, .slice p21_4 (((bigS (!b) (x - b.toNat + (!b).toNat)).1.q2).length) p21_c4]) rfl rfl) (.cons (res_tmp rfl) .nil)) rfl ?_
 rw [notQ_whole hw, ← turn_sum hb]
 exact ⟨p21_1, p21_c1, p21_2, p21_c2, p21_3, p21_c3, p21_4, p21_c4, rfl, ⟨⟨(hS.rd 3 rfl), hn22.s1.nil, hn22.s1.cap⟩, ⟨(hS.rd 2 rfl), hn22.s2.nil, hn22.s2.cap⟩, ⟨(hS.rd 1 rfl), hn22.s3.nil, hn22.s3.cap⟩, ⟨(hS.rd 0 rfl), hn22.s4.nil, hn22.s4.cap⟩⟩, hS.bel⟩
end Go.Proofs.YtbajcflbimmnhaaGreatDoor
namespace Go.Proofs.YtbajcflbimmnhaaGreatDoor
open Go.RowKit
set_option linter.unusedVariables false
set_option linter.unusedSimpArgs false
end Go.Proofs.YtbajcflbimmnhaaGreatDoor
namespace Go.Proofs.YtbajcflbimmnhaaGreatDoor
open Go.RowKit
set_option linter.unusedVariables false
set_option linter.unusedSimpArgs false
set_option maxRecDepth 100000
end Go.Proofs.YtbajcflbimmnhaaGreatDoor
namespace Go.Proofs.YtbajcflbimmnhaaGreatDoor
open Go.RowKit
set_option linter.unusedVariables false
set_option linter.unusedSimpArgs false

def rowL (b : Bool) (y n : Nat) : List Nat := (List.range n).map (rwd b y)
theorem rowL_len (b : Bool) (y n : Nat) : (rowL b y n).length = n := by simp [rowL]
theorem rowL_get {b : Bool} {y n i : Nat} (h : i < n) : (rowL b y n).getD i 0 = rwd b y i := by simp [rowL, h]
theorem rowL_dig (b : Bool) (y n : Nat) : Dig (rowL b y n) := by
  intro x hx
  obtain ⟨i, _, rfl⟩ := List.mem_map.1 hx
  exact rwd_lt b y i
theorem getD_set (l : List Nat) (i j d : Nat) (hi : i < l.length) : (l.set i d).getD j 0 = if i = j then d else l.getD j 0 := by
  simp only [List.getD_eq_getElem?_getD]
  by_cases h : i = j
  · subst h; rw [List.getElem?_set_self hi, if_pos rfl]; rfl
  · rw [List.getElem?_set_ne h, if_neg h]
/-- A row in work: the first i words are there, the others are 0. -/
def RowIn (b : Bool) (y n i : Nat) (l : List Nat) : Prop := l.length = n ∧ (∀ j, j < i → l.getD j 0 = rwd b y j) ∧ ∀ j, i ≤ j → l.getD j 0 = 0
theorem RowIn.start (b : Bool) (y n : Nat) : RowIn b y n 0 (List.replicate n 0) := ⟨by simp, fun j hj => by omega, fun j _ => by simp [List.getD_eq_getElem?_getD, List.getElem?_replicate]; split <;> rfl⟩
theorem RowIn.step {b : Bool} {y n i : Nat} {l l' : List Nat} (h : RowIn b y n i l) (h1 : l'.length = n) (h2 : l'.getD i 0 = rwd b y i) (h3 : ∀ j, i ≠ j → l'.getD j 0 = l.getD j 0) : RowIn b y n (i + 1) l' := by
  refine ⟨h1, fun j hj => ?_, fun j hj => ?_⟩
  · by_cases e : i = j
    · subst e; exact h2
    · rw [h3 j e]; exact h.2.1 j (by omega)
  · rw [h3 j (by omega)]; exact h.2.2 j (by omega)
theorem RowIn.done {b : Bool} {y n : Nat} {l : List Nat} (h : RowIn b y n n l) : l = rowL b y n := list_of_getD (by rw [rowL_len]; exact h.1) (fun j hj => by rw [h.1] at hj; rw [rowL_get hj]; exact h.2.1 j hj)
end Go.Proofs.YtbajcflbimmnhaaGreatDoor
namespace Go.Proofs.YtbajcflbimmnhaaGreatDoor
open Go.RowKit
set_option linter.unusedVariables false
set_option linter.unusedSimpArgs false
set_option maxRecDepth 100000

end Go.Proofs.YtbajcflbimmnhaaGreatDoor
namespace Go.Proofs.YtbajcflbimmnhaaGreatDoor
open Go.RowKit
set_option linter.unusedVariables false
set_option linter.unusedSimpArgs false
set_option maxRecDepth 100000

end Go.Proofs.YtbajcflbimmnhaaGreatDoor
namespace Go.Proofs.YtbajcflbimmnhaaGreatDoor
open Go.RowKit
set_option linter.unusedVariables false
set_option linter.unusedSimpArgs false
set_option maxRecDepth 100000

end Go.Proofs.YtbajcflbimmnhaaGreatDoor
namespace Go.Proofs.YtbajcflbimmnhaaGreatDoor
open Go.RowKit
set_option linter.unusedVariables false
set_option linter.unusedSimpArgs false
set_option maxRecDepth 100000

end Go.Proofs.YtbajcflbimmnhaaGreatDoor
namespace Go.Proofs.YtbajcflbimmnhaaGreatDoor
open Go.RowKit
set_option linter.unusedVariables false
set_option linter.unusedSimpArgs false

/-- The bit k of a row without end. -/
def tbit (b : Bool) (y k : Nat) : Nat := (y.testBit k ^^ b).toNat
theorem tbit_le (b : Bool) (y k : Nat) : tbit b y k ≤ 1 := Bool.toNat_le _
/-- The bits from s on, so many, as a number. -/
def fld (b : Bool) (y s : Nat) : Nat → Nat
  | 0 => 0
  | c + 1 => fld b y s c + tbit b y (s + c) * 2 ^ c
theorem fld_lt (b : Bool) (y s : Nat) : ∀ c, fld b y s c < 2 ^ c
  | 0 => by simp [fld]
  | c + 1 => by
    have h1 := fld_lt b y s c
    have h2 := tbit_le b y (s + c)
    have h3 : tbit b y (s + c) * 2 ^ c ≤ 1 * 2 ^ c := Nat.mul_le_mul_right _ h2
    unfold fld
    rw [Nat.pow_succ]
    omega
theorem fld_down (b : Bool) (y s : Nat) : ∀ c, fld b (y / 2 ^ s) 0 c = fld b y s c
  | 0 => rfl
  | c + 1 => by
    unfold fld
    rw [fld_down b y s c]
    unfold tbit
    rw [Nat.zero_add, Nat.testBit_div_two_pow, Nat.add_comm c s]
/-- A number's lowest bits are told by its bits. -/
theorem mod_bits {X b y : Nat} {B : Bool} : ∀ c, (∀ k, k < c → X / 2 ^ k % 2 = tbit B y k) → X % 2 ^ c = fld B y 0 c
  | 0, _ => by simp [fld, Nat.mod_one]
  | c + 1, h => by
    have ih := mod_bits (X := X) (b := b) c (fun k hk => h k (by omega))
    have e := h c (by omega)
    unfold fld
    rw [Nat.zero_add, ← e, ← ih, Nat.pow_succ, Nat.mod_mul, Nat.mul_comm (X / 2 ^ c % 2)]
theorem rwd_bit {b : Bool} {y J r : Nat} (hr : r < 32) : rwd b y J / 2 ^ r % 2 = tbit b y (32 * J + r) := by
  rw [← Nat.toNat_testBit]
  unfold tbit rwd
  rw [Nat.testBit_xor]
  have e1 : (y / pw J % 4294967296).testBit r = y.testBit (32 * J + r) := by
    rw [show (4294967296 : Nat) = 2 ^ 32 from rfl, Nat.testBit_mod_two_pow, pw_two, Nat.testBit_div_two_pow, Nat.add_comm r]
    simp [hr]
  have e2 : (b.toNat * 4294967295).testBit r = b := by
    cases b with
    | false => simp
    | true =>
      show (1 * 4294967295).testBit r = true
      rw [Nat.one_mul, show (4294967295 : Nat) = 2 ^ 32 - 1 from rfl, Nat.testBit_two_pow_sub_one]
      simp [hr]
  rw [e1, e2]
/-- A bit of a list of words. -/
theorem val_bit {l : List Nat} (hd : Dig l) (k : Nat) : val l / 2 ^ k % 2 = l.getD (k / 32) 0 / 2 ^ (k % 32) % 2 := by
  have h1 : l.getD (k / 32) 0 = val l / pw (k / 32) % 4294967296 := by
    have h2 := val_split l (k / 32)
    by_cases hk : k / 32 < l.length
    · have hm : min (k / 32) l.length = k / 32 := by omega
      rw [hm] at h2
      have h3 : val (l.take (k / 32)) < pw (k / 32) := by
        have := val_lt (hd.take (k / 32))
        rwa [List.length_take, hm] at this
      have h4 : val l / pw (k / 32) = val (l.drop (k / 32)) := by
        rw [h2, Nat.add_mul_div_left _ _ (pw_pos _), Nat.div_eq_of_lt h3, Nat.zero_add]
      rw [h4, List.drop_eq_getElem_cons hk, val_cons, Nat.add_mul_mod_self_left, Nat.mod_eq_of_lt (hd _ (List.getElem_mem hk))]
      simp [hk]
    · have : val l < pw (k / 32) := Nat.lt_of_lt_of_le (val_lt hd) (pw_le (by omega))
      rw [Nat.div_eq_of_lt this]
      simp [List.getD_eq_getElem?_getD, List.getElem?_eq_none (by omega : l.length ≤ k / 32)]
  rw [h1, ← Nat.toNat_testBit, ← Nat.toNat_testBit, show (4294967296 : Nat) = 2 ^ 32 from rfl, Nat.testBit_mod_two_pow, pw_two, Nat.testBit_div_two_pow]
  have e : k % 32 + 32 * (k / 32) = k := by omega
  rw [e]
  have : k % 32 < 32 := Nat.mod_lt _ (by decide)
  simp [this]
theorem rowL_bit {b : Bool} {y n k : Nat} (h : k / 32 < n) : (rowL b y n).getD (k / 32) 0 / 2 ^ (k % 32) % 2 = tbit b y k := by
  rw [rowL_get h, rwd_bit (Nat.mod_lt _ (by decide))]
  congr 1
  omega
theorem rowL_mod {b : Bool} {y n c : Nat} (h : c ≤ 32 * n) : val (rowL b y n) % 2 ^ c = fld b y 0 c :=
  mod_bits (b := 0) c (fun k hk => by rw [val_bit (rowL_dig _ _ _), rowL_bit (by omega)])
/-- The last word cut down. -/
theorem mask_val {l : List Nat} {n r : Nat} (hd : Dig l) (hl : l.length = n + 1) : val (l.set n (l.getD n 0 &&& (2 ^ r - 1))) = val l % (pw n * 2 ^ r) := by
  have e : l.getD n 0 &&& (2 ^ r - 1) = l.getD n 0 % 2 ^ r := Nat.and_two_pow_sub_one_eq_mod _ _
  have h1 : val l = val (l.take n) + pw n * l.getD n 0 := by
    have := val_take_succ l n
    rwa [List.take_of_length_le (by omega)] at this
  have h2 : val (l.set n (l.getD n 0 % 2 ^ r)) = val (l.take n) + pw n * (l.getD n 0 % 2 ^ r) := by
    have := val_set_take l n (l.getD n 0 % 2 ^ r) (by omega)
    rwa [List.take_of_length_le (by rw [List.length_set]; omega)] at this
  have h3 : val (l.take n) < pw n := by
    have := val_lt (hd.take n)
    rwa [List.length_take, Nat.min_eq_left (by omega)] at this
  rw [e, h2, Nat.mod_mul, h1, Nat.add_mul_mod_self_left, Nat.mod_eq_of_lt h3, Nat.add_mul_div_left _ _ (pw_pos _), Nat.div_eq_of_lt h3, Nat.zero_add]
/-- A number's words, in a list of a given length. -/
def Pads (F n : Nat) (l : List Nat) : Prop := l.length = n ∧ ∀ j, l.getD j 0 = F / pw j % 4294967296
theorem Pads.start (n : Nat) : Pads 0 n (List.replicate n 0) := ⟨by simp, fun j => by simp [List.getD_eq_getElem?_getD, List.getElem?_replicate]; split <;> rfl⟩
theorem Pads.step {F n k t : Nat} {l : List Nat} (h : Pads F n l) (hF : F < 2 ^ k) (ht : t ≤ 1) (hk : k / 32 < n) : Pads (F + t * 2 ^ k) n (l.set (k / 32) (l.getD (k / 32) 0 ||| t * 2 ^ (k % 32))) := by
  have hk2 : 2 ^ k = pw (k / 32) * 2 ^ (k % 32) := by rw [pw_two, ← Nat.pow_add]; congr 1; omega
  have hr : 2 ^ (k % 32) ≤ 2 ^ 31 := Nat.pow_le_pow_right (by omega) (by omega)
  have hq : F / pw (k / 32) < 2 ^ (k % 32) := by
    rw [Nat.div_lt_iff_lt_mul (pw_pos _), Nat.mul_comm, ← hk2]
    exact hF
  have hold : l.getD (k / 32) 0 = F / pw (k / 32) := by
    rw [h.2, Nat.mod_eq_of_lt (by omega)]
  refine ⟨by rw [List.length_set]; exact h.1, fun j => ?_⟩
  rw [getD_set _ _ _ _ (by rw [h.1]; exact hk)]
  by_cases e : k / 32 = j
  · subst e
    have h8 : t * 2 ^ (k % 32) ≤ 1 * 2 ^ (k % 32) := Nat.mul_le_mul_right _ ht
    have h9 : (2 : Nat) ^ 31 = 2147483648 := rfl
    have e1 : (F / pw (k / 32) ||| t * 2 ^ (k % 32)) = t * 2 ^ (k % 32) + F / pw (k / 32) := by
      rw [Nat.or_comm]
      exact or_add t (F / pw (k / 32)) (k % 32) hq
    have e2 : (F + t * 2 ^ k) / pw (k / 32) = F / pw (k / 32) + t * 2 ^ (k % 32) := by
      rw [hk2, Nat.mul_left_comm t, Nat.add_mul_div_left _ _ (pw_pos _)]
    rw [if_pos rfl, hold, e1, e2, Nat.mod_eq_of_lt (show F / pw (k / 32) + t * 2 ^ (k % 32) < 4294967296 from by omega), Nat.add_comm]
  · rw [if_neg e, h.2]
    by_cases hlt : j < k / 32
    · have : 2 ^ k = pw j * (4294967296 * (pw (k / 32 - j - 1) * 2 ^ (k % 32))) := by
        rw [hk2, show k / 32 = j + (1 + (k / 32 - j - 1)) by omega, pw_add, pw_add]
        have : pw 1 = 4294967296 := by rw [pw_succ, pw_zero]
        rw [this, Nat.mul_assoc, Nat.mul_assoc]
        congr 3
        congr 1
        omega
      rw [this, Nat.mul_left_comm t, Nat.add_mul_div_left _ _ (pw_pos _), Nat.mul_left_comm t, Nat.add_mul_mod_self_left]
    · have h1 : pw (k / 32 + 1) ≤ pw j := pw_le (by omega)
      rw [pw_succ] at h1
      have h2 : F + t * 2 ^ k < pw j := by
        have : t * 2 ^ k ≤ 1 * 2 ^ k := Nat.mul_le_mul_right _ ht
        have h3 : 2 ^ k ≤ pw (k / 32) * 2 ^ 31 := by rw [hk2]; exact Nat.mul_le_mul_left _ hr
        have : (2 : Nat) ^ 31 = 2147483648 := rfl
        omega
      rw [Nat.div_eq_of_lt h2, Nat.div_eq_of_lt (by omega)]
def fieldQ (q : Q6) (s e : Int) : Q6 × Int :=
  if want1 q = 0 then (if s < 0 ∨ e < s ∨ 16384 < e then (Q6.zero, 1) else (Q6.whole false (fld q.b1 (val q.t1 - q.b1.toNat) s.toNat (e - s).toNat), 0)) else (Q6.zero, want1 q)
theorem fieldQ_ok {b : Bool} {x S E : Nat} (h : want1 (Q6.whole b x) = 0) (h1 : S ≤ E) (h2 : E ≤ 16384) : fieldQ (Q6.whole b x) (S : Int) (E : Int) = (Q6.whole false (fld b (x - b.toNat) S (E - S)), 0) := by
  unfold fieldQ
  rw [if_pos h, if_neg (by omega)]
  simp only [Q6.whole, val_words, Int.toNat_natCast]
  rw [show ((E : Int) - (S : Int)).toNat = E - S from by omega]
theorem fld_len {b : Bool} {y s c : Nat} (h : c ≤ 16384) : (words (fld b y s c)).length ≤ 512 := by
  apply words_length_le
  have h1 := fld_lt b y s c
  have h2 : pw 512 = 2 ^ (32 * 512) := pw_two 512
  have h3 : c ≤ 32 * 512 := h
  generalize 32 * 512 = K at h2 h3
  rw [h2]
  exact Nat.lt_of_lt_of_le h1 (Nat.pow_le_pow_right (Nat.zero_lt_succ 1) h3)
section
variable {P : Program} {t : TypeId} {a b : Operand}
theorem bin_quo {n : Nat} (hn : n ≤ 1000000000) : ∀ w, (do eqGuard .quo t a b (.int .i64 ((n : Nat) : Int)) (.int .i64 32); binOp .quo t (.int .i64 ((n : Nat) : Int)) (.int .i64 32) : Sem Value).run P w = .ok (.int .i64 ((n / 32 : Nat) : Int)) w := fun w => by
  have e : ((n : Nat) : Int).tdiv 32 = ((n / 32 : Nat) : Int) := by rw [Int.tdiv_eq_ediv_of_nonneg (by omega)]; omega
  have h := i64In (a := ((n / 32 : Nat) : Int)) (by omega) (by omega)
  rw [show ((n / 32 : Nat) : Int) = ((n : Nat) : Int) / 32 from by omega] at h
  simp [go_sem, e, h]
theorem bin_rem {n : Nat} (hn : n ≤ 1000000000) : ∀ w, (do eqGuard .rem t a b (.int .i64 ((n : Nat) : Int)) (.int .i64 32); binOp .rem t (.int .i64 ((n : Nat) : Int)) (.int .i64 32) : Sem Value).run P w = .ok (.int .i64 ((n % 32 : Nat) : Int)) w := fun w => by
  have e : ((n : Nat) : Int).tmod 32 = ((n % 32 : Nat) : Int) := by rw [Int.tmod_eq_emod_of_nonneg (by omega)]; omega
  have h := i64In (a := ((n % 32 : Nat) : Int)) (by omega) (by omega)
  simp [go_sem, e, h]
theorem bin_shl {x k : Nat} (hx : x ≤ 1) (hk : k < 32) : ∀ w, (do eqGuard .shl t a b (.int .u32 ((x : Nat) : Int)) (.int .i64 ((k : Nat) : Int)); binOp .shl t (.int .u32 ((x : Nat) : Int)) (.int .i64 ((k : Nat) : Int)) : Sem Value).run P w = .ok (.int .u32 ((x * 2 ^ k : Nat) : Int)) w := fun w => by
  have h : ¬ ((k : Nat) : Int) < 0 := by omega
  have h1 : x * 2 ^ k < 4294967296 := by
    have h2 : x * 2 ^ k ≤ 1 * 2 ^ k := Nat.mul_le_mul_right _ hx
    have h3 : 2 ^ k ≤ 2 ^ 31 := Nat.pow_le_pow_right (by decide) (by omega)
    have h4 : (2 : Nat) ^ 31 = 2147483648 := rfl
    omega
  have h5 := wrap_u32 (x * 2 ^ k) h1
  rw [Int.natCast_mul, Int.natCast_pow] at h5
  simp only [Int.cast_ofNat_Int] at h5
  simp [go_sem, h, h5]
theorem bin_subU {k : Nat} (hk : k < 32) : ∀ w, (do eqGuard .sub t a b (.int .u32 ((1 * 2 ^ k : Nat) : Int)) (.int .u32 1); binOp .sub t (.int .u32 ((1 * 2 ^ k : Nat) : Int)) (.int .u32 1) : Sem Value).run P w = .ok (.int .u32 ((2 ^ k - 1 : Nat) : Int)) w := fun w => by
  have h3 : 2 ^ k ≤ 2 ^ 31 := Nat.pow_le_pow_right (by decide) (by omega)
  have h4 : (2 : Nat) ^ 31 = 2147483648 := rfl
  have hp : 0 < 2 ^ k := Nat.pow_pos (by decide)
  have e : ((1 * 2 ^ k : Nat) : Int) - 1 = ((2 ^ k - 1 : Nat) : Int) := by omega
  have h5 := wrap_u32 (2 ^ k - 1) (by omega)
  rw [← e] at h5
  rw [bin_sub h5, e]
end
end Go.Proofs.YtbajcflbimmnhaaGreatDoor
namespace Go.Proofs.YtbajcflbimmnhaaGreatDoor
open Go.RowKit
set_option linter.unusedVariables false
set_option linter.unusedSimpArgs false
set_option maxRecDepth 100000
theorem BiP_is1_57 : Is1 Tryz.prog 57 := ⟨⟨_, Tryz.underlying57, rfl⟩, by kernel_rfl⟩
theorem BiP_isS_27 : IsS Tryz.prog 27 6 := ⟨⟨_, Tryz.underlying27⟩, by kernel_rfl⟩
theorem BiP_isS_75 : IsS Tryz.prog 75 2 := ⟨⟨_, Tryz.underlying75⟩, by kernel_rfl⟩
theorem mask_lt {k : Nat} (hk : k < 32) : 2 ^ k - 1 < 4294967296 := by
 have h3 : 2 ^ k ≤ 2 ^ 31 := Nat.pow_le_pow_right (by decide) (by omega)
 have h4 : (2 : Nat) ^ 31 = 2147483648 := rfl
 omega
theorem low_mask {b : Bool} {y c n : Nat} (hn : (c + 32 - 1) / 32 = n + 1) (hr : 0 < c % 32) : val ((rowL b y (n + 1)).set n ((rowL b y (n + 1)).getD n 0 &&& (2 ^ (c % 32) - 1))) = fld b y 0 c := by
 rw [mask_val (rowL_dig _ _ _) (rowL_len _ _ _), pw_two, ← Nat.pow_add, show 32 * n + c % 32 = c from by omega]
 exact rowL_mod (by omega)
theorem low_all {b : Bool} {y c : Nat} (hr : ¬ 0 < c % 32) : val (rowL b y ((c + 32 - 1) / 32)) = fld b y 0 c := by
 have h1 := rowL_mod (b := b) (y := y) (n := (c + 32 - 1) / 32) (c := c) (by omega)
 have h2 := val_lt (rowL_dig b y ((c + 32 - 1) / 32))
 rw [rowL_len, pw_two, show 32 * ((c + 32 - 1) / 32) = c from by omega] at h2
 rw [← h1, Nat.mod_eq_of_lt h2]
theorem lowest_row_any {w : World} {b : Bool} {ro : Option Addr} {rc y c : Nat} (hr : Rd w ro (words y)) (hy : (words y).length ≤ 600) (hc : c ≤ 16384) : Calls Tryz.prog 55 #[.agg #[.bool b, .slice ro (words y).length rc], .int .i64 ((c : Nat) : Int)] w (Row1 w (words (fld b y 0 c))) := by
 have hS : St w w [] [] [] := St.start w
 refine walk_of (l := [(0, .agg #[.bool b, .slice ro ((words y).length) rc]), (1, .int .i64 (((c : Nat) : Int)))]) Tryz.func55 rfl Tryz.ntmps55 rfl rfl ?_
 intro Q hret hnorm hP a hA
 refine wp_seq_k (fun K1 hK1 => ?_)
 refine wp_region_lit ?_
 refine seq_new hA hS rfl rfl rfl (fun g => .pointer (some ⟨g, 0, none⟩)) (does_box rfl rfl) rfl ?_
 intro g2 w3 hS a hA
 refine seq_do hA rfl rfl rfl (does_assign rfl) fun a hA => ?_
 refine seq_end ?_
 refine hK1 _ _ ?_
 refine wp_seq_k (fun K4 hK4 => ?_)
 refine wp_region_lit ?_
 refine seq_do hA rfl rfl rfl (does_move rfl) fun a hA => ?_
 refine seq_do (v := .int .i64 (((c + 32 : Nat) : Int))) hA rfl rfl rfl (does_bin rfl rfl (fun w => (bin_add (i64In (by omega) (by omega)) w).trans (by rw [show (((c : Nat) : Int) + 32 : Int) = ((c + 32 : Nat) : Int) from by omega]))) fun a hA => ?_
 refine seq_do (v := .int .i64 (((c + 32 - 1 : Nat) : Int))) hA rfl rfl rfl (does_bin rfl rfl (fun w => (bin_sub (i64In (by omega) (by omega)) w).trans (by rw [show (((c + 32 : Nat) : Int) - 1 : Int) = ((c + 32 - 1 : Nat) : Int) from by omega]))) fun a hA => ?_
 refine seq_do (v := .int .i64 ((((c + 32 - 1) / 32 : Nat) : Int))) hA rfl rfl rfl (does_bin rfl rfl (bin_quo (by omega))) fun a hA => ?_
 refine seq_make (m := (c + 32 - 1) / 32) hA hS rfl rfl rfl (does_make Tryz.underlying23 (by kernel_rfl) rfl rfl (by omega)) (by omega) ?_
 intro g5 w6 hS a hA
 refine seq_do hA rfl rfl rfl (does_assign rfl) fun a hA => ?_
 refine seq_end ?_
 refine hK4 _ _ ?_
 refine wp_seq_k (fun K7 hK7 => ?_)
 refine wp_seq_k (fun K8 hK8 => ?_)
 refine wp_region_lit ?_
 refine seq_do hA rfl rfl rfl (does_move rfl) fun a hA => ?_
 refine seq_do (v := .int .i64 ((((c + 32 - 1) / 32 : Nat) : Int))) hA rfl rfl rfl (does_len Tryz.underlying23 rfl) fun a hA => ?_
 refine seq_do hA rfl rfl rfl (does_move rfl) fun a hA => ?_
 refine seq_end ?_
 refine hK8 _ _ ?_
 refine wp_block ?_
 refine wp_loop_n (fun m a w1 => ∃ (i : Nat) (l : List Nat), m = (c + 32 - 1) / 32 - i ∧ (i ≤ (c + 32 - 1) / 32 ∧ l.length = (c + 32 - 1) / 32 ∧ ∀ j, j < i → l.getD j 0 = rwd b y j) ∧ Sl a 42 [(0, .agg #[.bool b, .slice ro ((words y).length) rc]), (1, .int .i64 (((c : Nat) : Int))), (2, .pointer (some ⟨g2, 0, none⟩)), (4, .slice none 0 0), (5, .slice (some ⟨g5, 0, none⟩) ((c + 32 - 1) / 32) ((c + 32 - 1) / 32)), (8, .int .i64 (((c : Nat) : Int))), (9, .int .i64 (((c + 32 : Nat) : Int))), (10, .int .i64 (((c + 32 - 1 : Nat) : Int))), (11, .int .i64 ((((c + 32 - 1) / 32 : Nat) : Int))), (12, .slice (some ⟨g5, 0, none⟩) ((c + 32 - 1) / 32) ((c + 32 - 1) / 32)), (13, .slice (some ⟨g5, 0, none⟩) ((c + 32 - 1) / 32) ((c + 32 - 1) / 32)), (14, .int .i64 ((((c + 32 - 1) / 32 : Nat) : Int))), (15, .int .i64 (((i : Nat) : Int)))] ∧ St w w1 [(g2, [.bool b, .slice ro ((words y).length) rc])] [] [(some ⟨g5, 0, none⟩, (c + 32 - 1) / 32, l)]) _ ⟨0, List.replicate ((c + 32 - 1) / 32) 0, rfl, ⟨Nat.zero_le _, by simp, fun j hj => by omega⟩, hA.keep _ ⟨rfl, rfl, rfl, rfl, rfl, rfl, rfl, rfl, rfl, rfl, rfl, rfl, rfl, trivial⟩, hS⟩ ?_
 clear hS hA
 rintro m a w9 ⟨i, l, rfl, hinv11, hA, hS⟩ K10 hK10
 obtain ⟨hle9, hinv9, hinv8⟩ := hinv11
 have hdig9 := (hS.row 0 rfl).dig
 refine wp_seq_k (fun K12 hK12 => ?_)
 refine wp_region_lit ?_
 rcases Bool.eq_false_or_eq_true (decide (((i : Nat) : Int) < (((c + 32 - 1) / 32 : Nat) : Int))) with hb13 | hb13
 ·
  have hb13' := of_decide_eq_true hb13
  refine seq_do (v := .bool true) hA rfl rfl rfl (does_bin rfl rfl (fun w => (bin_lss w).trans (by rw [hb13]))) fun a hA => ?_
  refine seq_end ?_
  refine hK12 _ _ ?_
  refine wp_seq_k (fun K14 hK14 => ?_)
  refine wp_cond_true (hA.ev rfl) ?_
  refine wp_skip ?_
  refine hK14 _ _ ?_
  refine wp_seq_k (fun K15 hK15 => ?_)
  refine wp_block ?_
  refine wp_seq_k (fun K16 hK16 => ?_)
  refine wp_region_lit ?_
  refine seq_do hA rfl rfl rfl (does_move rfl) fun a hA => ?_
  refine seq_do hA rfl rfl rfl (does_assign rfl) fun a hA => ?_
  refine seq_end ?_
  refine hK16 _ _ ?_
  refine wp_region_lit ?_
  refine seq_do hA rfl rfl rfl (does_move rfl) fun a hA => ?_
  refine seq_do hA rfl rfl rfl (does_move rfl) fun a hA => ?_
  refine seq_do hA rfl rfl rfl (does_loadS hS BiP_isS_75 rfl 0 rfl (cs := [.bool b, .slice ro ((words y).length) rc]) rfl rfl) fun a hA => ?_
  refine seq_do hA rfl rfl rfl (does_move rfl) fun a hA => ?_
  refine seq_call hA rfl rfl rfl (enters_func  rfl rfl (fun w => by kernel_rfl)) (rwordAt_any (hr.below hS.bel) (by omega)) ?_
  rintro _ w18 ⟨rfl, hb17⟩
  have hS0 := hS
  replace hS := hS.call hb17
  refine ⟨_, rfl, ?_⟩
  intro a hA
  have hi22 : i < l.length := by first | omega | (simp only [List.length_set]; omega)
  refine seq_do (v := .pointer (some ⟨g5, 0 + i, none⟩)) hA rfl rfl rfl (does_indexRow (k := i) Tryz.underlying23 (by kernel_rfl) rfl rfl (by omega) rfl (by omega)) fun a hA => ?_
  refine seq_row (us' := l.set i (rwd b y i)) hA hS rfl rfl (sets_row (d := rwd b y i) (by kernel_rfl) rfl rfl hS 0 rfl hi22) 0 rfl (rwd_lt _ _ _) rfl ?_
  intro w23 hS
  refine seq_end ?_
  refine hK15 _ _ ?_
  refine wp_region_lit ?_
  refine seq_do (v := .int .i64 (((i + 1 : Nat) : Int))) hA rfl rfl rfl (does_bin rfl rfl (fun w => (bin_add (i64In (by omega) (by omega)) w).trans (by rw [show (((i : Nat) : Int) + 1 : Int) = ((i + 1 : Nat) : Int) from by omega]))) fun a hA => ?_
  refine seq_do hA rfl rfl rfl (does_move rfl) fun a hA => ?_
  refine seq_end ?_
  refine hK10 _ _ _ (by omega) ⟨i + 1, l.set i (rwd b y i), rfl, ⟨by omega, by rw [List.length_set]; exact hinv9, fun j hj => by rw [getD_set _ _ _ _ (by omega)]; split; rename_i h; subst h; rfl; exact hinv8 j (by omega)⟩, hA.keep _ ⟨rfl, rfl, rfl, rfl, rfl, rfl, rfl, rfl, rfl, rfl, rfl, rfl, rfl, trivial⟩, hS⟩
 ·
  have hb13' := of_decide_eq_false hb13
  refine seq_do (v := .bool false) hA rfl rfl rfl (does_bin rfl rfl (fun w => (bin_lss w).trans (by rw [hb13]))) fun a hA => ?_
  refine seq_end ?_
  refine hK12 _ _ ?_
  refine wp_seq_k (fun K24 hK24 => ?_)
  refine wp_cond_false (hA.ev rfl) ?_
  refine wp_exit ?_
  refine hK7 _ _ ?_
  refine wp_seq_k (fun K25 hK25 => ?_)
  refine wp_seq_k (fun K26 hK26 => ?_)
  refine wp_region_lit ?_
  refine seq_do hA rfl rfl rfl (does_move rfl) fun a hA => ?_
  refine seq_do (v := .int .i64 (((c % 32 : Nat) : Int))) hA rfl rfl rfl (does_bin rfl rfl (bin_rem (by omega))) fun a hA => ?_
  refine seq_do hA rfl rfl rfl (does_assign rfl) fun a hA => ?_
  refine seq_end ?_
  refine hK26 _ _ ?_
  refine wp_seq_k (fun K27 hK27 => ?_)
  refine wp_region_lit ?_
  refine seq_do hA rfl rfl rfl (does_move rfl) fun a hA => ?_
  rcases Bool.eq_false_or_eq_true (decide (0 < ((c % 32 : Nat) : Int))) with hb28 | hb28
  ·
   have hb28' := of_decide_eq_true hb28
   refine seq_do (v := .bool true) hA rfl rfl rfl (does_bin rfl rfl (fun w => (bin_gtr w).trans (by rw [hb28]))) fun a hA => ?_
   refine seq_end ?_
   refine hK27 _ _ ?_
   refine wp_cond_true (hA.ev rfl) ?_
   refine wp_draw (S := fun w1 => St w w1 [(g2, [.bool b, .slice ro ((words y).length) rc])] [] []) (by kernel_rfl) ?_
   replace hS := hS.drew
   refine any_tk hA 0 rfl rfl rfl rfl hP (hS.partD (.refl _) 0 rfl (.cons _ .slnil)) (fun w1 hS => does_move rfl) fun a hA => ?_
   refine any_tk hA 1 rfl rfl rfl rfl hP (hS.partD (.refl _) 0 rfl (.cons _ .slnil)) (fun w1 hS => does_move rfl) fun a hA => ?_
   refine any_tk (v := .int .i64 ((((c + 32 - 1) / 32 : Nat) : Int))) hA 2 rfl rfl rfl rfl hP (hS.partD (.refl _) 0 rfl (.cons _ .slnil)) (fun w1 hS => does_len Tryz.underlying23 rfl) fun a hA => ?_
   refine any_tk (v := .int .i64 ((((c + 32 - 1) / 32 - 1 : Nat) : Int))) hA 3 rfl rfl rfl rfl hP (hS.partD (.refl _) 0 rfl (.cons _ .slnil)) (fun w1 hS => does_bin rfl rfl (fun w => (bin_sub (i64In (by omega) (by omega)) w).trans (by rw [show ((((c + 32 - 1) / 32 : Nat) : Int) - 1 : Int) = (((c + 32 - 1) / 32 - 1 : Nat) : Int) from by omega]))) fun a hA => ?_
   have hi32 : (c + 32 - 1) / 32 - 1 < l.length := by first | omega | (simp only [List.length_set]; omega)
   refine any_tk (v := .pointer (some ⟨g5, 0 + ((c + 32 - 1) / 32 - 1), none⟩)) hA 4 rfl rfl rfl rfl hP (hS.partD (.refl _) 0 rfl (.cons _ .slnil)) (fun w1 hS => does_indexRow (k := (c + 32 - 1) / 32 - 1) Tryz.underlying23 (by kernel_rfl) rfl rfl (by omega) rfl (by omega)) fun a hA => ?_
   refine any_tk hA 6 rfl rfl rfl rfl hP (hS.partD (.refl _) 0 rfl (.cons _ .slnil)) (fun w1 hS => does_move rfl) fun a hA => ?_
   refine any_tk (v := .int .u32 (((1 * 2 ^ (c % 32) : Nat) : Int))) hA 7 rfl rfl rfl rfl hP (hS.partD (.refl _) 0 rfl (.cons _ .slnil)) (fun w1 hS => does_bin rfl rfl (bin_shl (x := 1) (by decide) (by omega))) fun a hA => ?_
   refine any_tk (v := .int .u32 (((2 ^ (c % 32) - 1 : Nat) : Int))) hA 8 rfl rfl rfl rfl hP (hS.partD (.refl _) 0 rfl (.cons _ .slnil)) (fun w1 hS => does_bin rfl rfl (bin_subU (by omega))) fun a hA => ?_
   refine any_one (by kernel_rfl) (op_do (v := .int .u32 (((l.getD ((c + 32 - 1) / 32 - 1) 0 : Nat) : Int))) hA 5 rfl rfl rfl rfl (does_loadRow (hS.row 0 rfl).rd rfl hi32 BiP_is1_57 rfl) (hS.partD (.refl _) 0 rfl (.cons _ .slnil)) ?_)
   intro a hA
   refine any_tk (v := .int .u32 (((l.getD ((c + 32 - 1) / 32 - 1) 0 &&& (2 ^ (c % 32) - 1) : Nat) : Int))) hA 9 rfl rfl rfl rfl hP (hS.partD (.refl _) 0 rfl (.cons _ .slnil)) (fun w1 hS => does_bin rfl rfl (bin_and (Dig.getD hdig9 _) (mask_lt (by omega)))) fun a hA => ?_
   have hi36 : (c + 32 - 1) / 32 - 1 < l.length := by first | omega | (simp only [List.length_set]; omega)
   refine any_tk (v := .pointer (some ⟨g5, 0 + ((c + 32 - 1) / 32 - 1), none⟩)) hA 10 rfl rfl rfl rfl hP (hS.partD (.refl _) 0 rfl (.cons _ .slnil)) (fun w1 hS => does_indexRow (k := (c + 32 - 1) / 32 - 1) Tryz.underlying23 (by kernel_rfl) rfl rfl (by omega) rfl (by omega)) fun a hA => ?_
   refine any_one (by kernel_rfl) (op_row (us' := l.set ((c + 32 - 1) / 32 - 1) (l.getD ((c + 32 - 1) / 32 - 1) 0 &&& (2 ^ (c % 32) - 1))) hA hS 11 rfl rfl rfl (sets_row (d := l.getD ((c + 32 - 1) / 32 - 1) 0 &&& (2 ^ (c % 32) - 1)) (by kernel_rfl) rfl rfl hS 0 rfl hi36) 0 rfl (Nat.lt_of_le_of_lt Nat.and_le_left (Dig.getD (hS.row 0 rfl).dig _)) rfl ?_)
   intro w37 hS
   refine ⟨(hS.partD (.refl _) 0 rfl (.cons _ .slnil)), ?_⟩
   refine any_end (by kernel_rfl) ?_
   refine hK25 _ _ ?_
   refine wp_seq_k (fun K38 hK38 => ?_)
   refine wp_region_lit ?_
   refine seq_do hA rfl rfl rfl (does_move rfl) fun a hA => ?_
   refine seq_call hA rfl rfl rfl (enters_func  rfl rfl (fun w => by kernel_rfl)) (btrimN_any (hS.row 0 rfl) (by first | exact hinv9 | (rw [List.length_set]; exact hinv9)) (by omega)) ?_
   rintro _ w41 ⟨rfl, ho39, hw40⟩
   have hw9 := below_eq hw40
   have ho9 := ho39.below hw9
   have hS0 := hS
   replace hS := hS.call hw9
   replace hS : St w w41 [(g2, [.bool b, .slice ro ((words y).length) rc])] [] [(some ⟨g5, 0, none⟩, (c + 32 - 1) / 32, words (val (l.set ((c + 32 - 1) / 32 - 1) (l.getD ((c + 32 - 1) / 32 - 1) 0 &&& (2 ^ (c % 32) - 1)))))] := hS.retake 0 rfl ho9
   refine ⟨_, rfl, ?_⟩
   intro a hA
   refine seq_do hA rfl rfl rfl (does_assign rfl) fun a hA => ?_
   refine seq_end ?_
   refine hK38 _ _ ?_
   refine wp_ret ?_
   refine hret _ _ ?_
   refine ends (v := .slice (some ⟨g5, 0, none⟩) ((words (val (l.set ((c + 32 - 1) / 32 - 1) (l.getD ((c + 32 - 1) / 32 - 1) 0 &&& (2 ^ (c % 32) - 1))))).length) ((c + 32 - 1) / 32)) hA rfl (.cons (res_tmp rfl) .nil) rfl ?_
   have hi9 : i = (c + 32 - 1) / 32 := by omega
   subst hi9
   have el : l = rowL b y ((c + 32 - 1) / 32) := list_of_getD (by rw [rowL_len]; exact hinv9) (fun j hj => by rw [rowL_get (by omega)]; exact hinv8 j (by omega))
   subst el
   obtain ⟨n9, hn9⟩ : ∃ n9, (c + 32 - 1) / 32 = n9 + 1 := ⟨(c + 32 - 1) / 32 - 1, by omega⟩
   have ev := low_mask (b := b) (y := y) hn9 (by omega)
   have e9 : (c + 32 - 1) / 32 - 1 = n9 := by omega
   rw [← hn9, ← e9] at ev
   rw [← ev]
   exact ⟨_, _, rfl, hS.row 0 rfl, hS.bel⟩
  ·
   have hb28' := of_decide_eq_false hb28
   refine seq_do (v := .bool false) hA rfl rfl rfl (does_bin rfl rfl (fun w => (bin_gtr w).trans (by rw [hb28]))) fun a hA => ?_
   refine seq_end ?_
   refine hK27 _ _ ?_
   refine wp_cond_false (hA.ev rfl) ?_
   refine wp_skip ?_
   refine hK25 _ _ ?_
   refine wp_seq_k (fun K42 hK42 => ?_)
   refine wp_region_lit ?_
   refine seq_do hA rfl rfl rfl (does_move rfl) fun a hA => ?_
   refine seq_call hA rfl rfl rfl (enters_func  rfl rfl (fun w => by kernel_rfl)) (btrimN_any (hS.row 0 rfl) (by first | exact hinv9 | (rw [List.length_set]; exact hinv9)) (by omega)) ?_
   rintro _ w45 ⟨rfl, ho43, hw44⟩
   have hw9 := below_eq hw44
   have ho9 := ho43.below hw9
   have hS0 := hS
   replace hS := hS.call hw9
   replace hS : St w w45 [(g2, [.bool b, .slice ro ((words y).length) rc])] [] [(some ⟨g5, 0, none⟩, (c + 32 - 1) / 32, words (val (l)))] := hS.retake 0 rfl ho9
   refine ⟨_, rfl, ?_⟩
   intro a hA
   refine seq_do hA rfl rfl rfl (does_assign rfl) fun a hA => ?_
   refine seq_end ?_
   refine hK42 _ _ ?_
   refine wp_ret ?_
   refine hret _ _ ?_
   refine ends (v := .slice (some ⟨g5, 0, none⟩) ((words (val (l))).length) ((c + 32 - 1) / 32)) hA rfl (.cons (res_tmp rfl) .nil) rfl ?_
   have hi9 : i = (c + 32 - 1) / 32 := by omega
   subst hi9
   have el : l = rowL b y ((c + 32 - 1) / 32) := list_of_getD (by rw [rowL_len]; exact hinv9) (fun j hj => by rw [rowL_get (by omega)]; exact hinv8 j (by omega))
   subst el
   rw [← low_all (b := b) (y := y) (c := c) (by omega)]
   exact ⟨_, _, rfl, hS.row 0 rfl, hS.bel⟩
theorem fieldPW_any {w : World} {b : Bool} {x : Nat} {a1 a2 a3 a4 : Option Addr} {ac1 ac2 ac3 ac4 : Nat} (ha : Nm w (Q6.whole b x) a1 ac1 a2 ac2 a3 ac3 a4 ac4) (hl : LenQ (Q6.whole b x)) {S E : Nat} (h1 : S ≤ E) (h2 : E ≤ 16384) (hw : want1 (Q6.whole b x) = 0) (hx : (words x).length ≤ 512) (hb : b.toNat ≤ x) : Calls Tryz.prog 30 #[numV (Q6.whole b x) a1 ac1 a2 ac2 a3 ac3 a4 ac4, .int .i64 ((S : Nat) : Int), .int .i64 ((E : Nat) : Int)] w (AnsN w (fieldQ (Q6.whole b x) (S : Int) (E : Int))) := by
 have hS : St w w [] [(a4, [1]), (a3, []), (a2, [1]), (a1, words x)] [] := ((((St.start w).addR ha.s1.rd).addR ha.s2.rd).addR ha.s3.rd).addR ha.s4.rd
 refine walk_of (l := [(0, .agg #[.bool b, .slice a1 ((words x).length) ac1, .slice a2 1 ac2, .bool false, .slice a3 0 ac3, .slice a4 1 ac4]), (1, .int .i64 (((S : Nat) : Int))), (2, .int .i64 (((E : Nat) : Int)))]) Tryz.func30 rfl Tryz.ntmps30 rfl rfl ?_
 intro Q hret hnorm hP a hA
 refine wp_seq_k (fun K1 hK1 => ?_)
 refine wp_region_lit ?_
 refine seq_new hA hS rfl rfl rfl (fun g => .pointer (some ⟨g, 0, none⟩)) (does_box rfl rfl) rfl ?_
 intro g2 w3 hS a hA
 refine seq_new (vs := [.bool false, .slice none 0 0, .slice none 0 0, .bool false, .slice none 0 0, .slice none 0 0]) (t := 27) hA hS rfl rfl rfl (fun g => .pointer (some ⟨g, 0, none⟩)) (does_alloc (z := .agg #[.bool false, .slice none 0 0, .slice none 0 0, .bool false, .slice none 0 0, .slice none 0 0]) (by kernel_rfl) rfl) rfl ?_
 intro g4 w5 hS a hA
 refine seq_do hA rfl rfl rfl (does_assign rfl) fun a hA => ?_
 refine seq_end ?_
 refine hK1 _ _ ?_
 refine wp_seq_k (fun K6 hK6 => ?_)
 refine wp_seq_k (fun K7 hK7 => ?_)
 refine wp_region_lit ?_
 refine seq_do hA rfl rfl rfl (does_loadS hS BiP_isS_27 rfl 1 rfl (cs := [.bool b, .slice a1 ((words x).length) ac1, .slice a2 1 ac2, .bool false, .slice a3 0 ac3, .slice a4 1 ac4]) rfl rfl) fun a hA => ?_
 refine seq_new (vs := [.bool b, .slice a1 ((words x).length) ac1, .slice a2 1 ac2, .bool false, .slice a3 0 ac3, .slice a4 1 ac4]) (t := 27) hA hS rfl rfl rfl (fun g => .slice (some ⟨g, 0, none⟩) 1 1) (does_buildSlice rfl (by kernel_rfl)) rfl ?_
 intro g8 w9 hS a hA
 refine seq_call hA rfl rfl rfl (enters_func  rfl rfl (fun w => by kernel_rfl)) (want1_any (show Nm _ (Q6.whole b x) a1 ac1 a2 ac2 a3 ac3 a4 ac4 from ⟨⟨(hS.rd 3 rfl), ha.s1.nil, ha.s1.cap⟩, ⟨(hS.rd 2 rfl), ha.s2.nil, ha.s2.cap⟩, ⟨(hS.rd 1 rfl), ha.s3.nil, ha.s3.cap⟩, ⟨(hS.rd 0 rfl), ha.s4.nil, ha.s4.cap⟩⟩) hl (hS.blk 0 rfl) hw) ?_
 rintro _ w11 ⟨rfl, hb10⟩
 replace hS := hS.call hb10
 refine ⟨_, rfl, ?_⟩
 intro a hA
 refine seq_do hA rfl rfl rfl (does_assign rfl) fun a hA => ?_
 refine seq_end ?_
 refine hK7 _ _ ?_
 refine wp_seq_k (fun K12 hK12 => ?_)
 refine wp_region_lit ?_
 refine seq_do hA rfl rfl rfl (does_move rfl) fun a hA => ?_
 refine seq_do (v := .bool false) hA rfl rfl rfl (does_bin rfl rfl (fun w => by kernel_rfl)) fun a hA => ?_
 refine seq_end ?_
 refine hK12 _ _ ?_
 refine wp_cond_false (hA.ev rfl) ?_
 refine wp_skip ?_
 refine hK6 _ _ ?_
 refine wp_seq_k (fun K13 hK13 => ?_)
 refine wp_seq_k (fun K14 hK14 => ?_)
 refine wp_region_lit ?_
 refine seq_do hA rfl rfl rfl (does_move rfl) fun a hA => ?_
 refine seq_do (v := .bool false) hA rfl rfl rfl (does_bin rfl rfl (fun w => (bin_lss w).trans (by rw [show (decide (((S : Nat) : Int) < 0)) = false from (decide_eq_false (by omega))]))) fun a hA => ?_
 refine seq_do hA rfl rfl rfl (does_move rfl) fun a hA => ?_
 refine seq_do hA rfl rfl rfl (does_move rfl) fun a hA => ?_
 refine seq_do hA rfl rfl rfl (does_move rfl) fun a hA => ?_
 refine seq_do (v := .bool false) hA rfl rfl rfl (does_bin rfl rfl (fun w => (bin_lss w).trans (by rw [show (decide (((E : Nat) : Int) < ((S : Nat) : Int))) = false from (decide_eq_false (by omega))]))) fun a hA => ?_
 refine seq_do (v := .bool false) hA rfl rfl rfl (does_pick rfl rfl rfl rfl) fun a hA => ?_
 refine seq_do hA rfl rfl rfl (does_move rfl) fun a hA => ?_
 refine seq_do hA rfl rfl rfl (does_move rfl) fun a hA => ?_
 refine seq_do (v := .bool false) hA rfl rfl rfl (does_bin rfl rfl (fun w => (bin_gtr w).trans (by rw [show (decide (16384 < ((E : Nat) : Int))) = false from (decide_eq_false (by omega))]))) fun a hA => ?_
 refine seq_do (v := .bool false) hA rfl rfl rfl (does_pick rfl rfl rfl rfl) fun a hA => ?_
 refine seq_end ?_
 refine hK14 _ _ ?_
 refine wp_cond_false (hA.ev rfl) ?_
 refine wp_skip ?_
 refine hK13 _ _ ?_
 refine wp_seq_k (fun K15 hK15 => ?_)
 refine wp_region_lit ?_
 refine seq_do hA rfl rfl rfl (does_loadS hS BiP_isS_27 rfl 2 rfl (cs := [.bool b, .slice a1 ((words x).length) ac1, .slice a2 1 ac2, .bool false, .slice a3 0 ac3, .slice a4 1 ac4]) rfl rfl) fun a hA => ?_
 refine seq_call hA rfl rfl rfl (enters_func  rfl rfl (fun w => by kernel_rfl)) (rowOf_any (show Nm _ (Q6.whole b x) a1 ac1 a2 ac2 a3 ac3 a4 ac4 from ⟨⟨(hS.rd 3 rfl), ha.s1.nil, ha.s1.cap⟩, ⟨(hS.rd 2 rfl), ha.s2.nil, ha.s2.cap⟩, ⟨(hS.rd 1 rfl), ha.s3.nil, ha.s3.cap⟩, ⟨(hS.rd 0 rfl), ha.s4.nil, ha.s4.cap⟩⟩) hx hb) ?_
 rintro _ w20 ⟨ro16, rc17, rfl, hs18, hb19⟩
 replace hS := hS.call hb19
 replace hS := hS.addR hs18.rd
 refine ⟨_, rfl, ?_⟩
 intro a hA
 refine seq_do hA rfl rfl rfl (does_move rfl) fun a hA => ?_
 refine seq_call hA rfl rfl rfl (enters_func  rfl rfl (fun w => by kernel_rfl)) ((show Calls Tryz.prog 54 #[.agg #[.bool b, .slice ro16 (words (x - b.toNat)).length rc17], .int .i64 ((S : Nat) : Int)] _ _ from down_any (n := ((S : Nat) : Int)) ⟨(hS.rd 0 rfl), hs18.nil, hs18.cap⟩ (sub_len hx) (by omega) (by omega))) ?_
 rintro _ w25 ⟨ro21, rc22, rfl, hs23, hb24⟩
 replace hS := hS.call hb24
 replace hS := hS.addR hs23.rd
 refine ⟨_, rfl, ?_⟩
 intro a hA
 refine seq_do hA rfl rfl rfl (does_move rfl) fun a hA => ?_
 refine seq_do hA rfl rfl rfl (does_move rfl) fun a hA => ?_
 refine seq_do (v := .int .i64 (((E - S : Nat) : Int))) hA rfl rfl rfl (does_bin rfl rfl (fun w => (bin_sub (i64In (by omega) (by omega)) w).trans (by rw [show (((E : Nat) : Int) - ((S : Nat) : Int) : Int) = ((E - S : Nat) : Int) from by omega]))) fun a hA => ?_
 refine seq_call hA rfl rfl rfl (enters_func  rfl rfl (fun w => by kernel_rfl)) (lowest_row_any (c := E - S) (hS.rd 0 rfl) (Nat.le_trans (div_len (sub_len hx)) (by decide)) (by omega)) ?_
 rintro _ w30 ⟨ro26, rc27, rfl, ho28, hb29⟩
 replace hS := hS.call hb29
 replace hS := hS.addR ho28.rd
 refine ⟨_, rfl, ?_⟩
 intro a hA
 refine seq_call hA rfl rfl rfl (enters_func  rfl rfl (fun w => by kernel_rfl)) (wholeV_any false ⟨(hS.rd 0 rfl), ho28.nocap, ho28.caps⟩) ?_
 rintro _ w34 ⟨p31_1, p31_c1, p31_2, p31_c2, p31_3, p31_c3, p31_4, p31_c4, rfl, hn32, hb33⟩
 replace hS := hS.call hb33
 replace hS := hS.addR hn32.s1.rd
 replace hS := hS.addR hn32.s2.rd
 replace hS := hS.addR hn32.s3.rd
 replace hS := hS.addR hn32.s4.rd
 refine ⟨_, rfl, ?_⟩
 intro a hA
 refine seq_store (us := [.bool false, .slice p31_1 ((words (fld b ((x - b.toNat) / 2 ^ S) 0 (E - S))).length) p31_c1, .slice p31_2 1 p31_c2, .bool false, .slice p31_3 0 p31_c3, .slice p31_4 1 p31_c4]) hA hS rfl rfl (sets_store rfl rfl rfl (by kernel_rfl) hS 1 rfl rfl rfl) 1 rfl rfl rfl rfl ?_
 intro w35 hS
 refine seq_do hA rfl rfl rfl (does_assign rfl) fun a hA => ?_
 refine seq_end ?_
 refine hK15 _ _ ?_
 refine wp_ret ?_
 refine hret _ _ ?_
 refine ends (v := .tuple #[.agg #[.bool false, .slice p31_1 ((words (fld b ((x - b.toNat) / 2 ^ S) 0 (E - S))).length) p31_c1, .slice p31_2 1 p31_c2, .bool false, .slice p31_3 0 p31_c3, .slice p31_4 1 p31_c4], .int .i64 0]) hA rfl (.cons (res_cell hS BiP_isS_27 rfl 1 rfl (cs := [.bool false, .slice p31_1 ((words (fld b ((x - b.toNat) / 2 ^ S) 0 (E - S))).length) p31_c1, .slice p31_2 1 p31_c2, .bool false, .slice p31_3 0 p31_c3, .slice p31_4 1 p31_c4]) rfl rfl) (.cons (res_tmp rfl) .nil)) rfl ?_
 rw [fieldQ_ok hw h1 h2, ← fld_down]
 exact ⟨p31_1, p31_c1, p31_2, p31_c2, p31_3, p31_c3, p31_4, p31_c4, rfl, ⟨⟨(hS.rd 3 rfl), hn32.s1.nil, hn32.s1.cap⟩, ⟨(hS.rd 2 rfl), hn32.s2.nil, hn32.s2.cap⟩, ⟨(hS.rd 1 rfl), hn32.s3.nil, hn32.s3.cap⟩, ⟨(hS.rd 0 rfl), hn32.s4.nil, hn32.s4.cap⟩⟩, hS.bel⟩
end Go.Proofs.YtbajcflbimmnhaaGreatDoor
namespace Go.Proofs.YtbajcflbimmnhaaGreatDoor
open Go.RowKit
set_option linter.unusedVariables false
set_option linter.unusedSimpArgs false

/-- A rational number that is not too long. -/
def fitR (u : Rat) : Prop := (words u.num.natAbs).length ≤ 512 ∧ (words u.den).length ≤ 512
instance (u : Rat) : Decidable (fitR u) := inferInstanceAs (Decidable (_ ∧ _))
end Go.Proofs.YtbajcflbimmnhaaGreatDoor
namespace Go.Proofs.YtbajcflbimmnhaaGreatDoor
open Go.RowKit
set_option linter.unusedVariables false
set_option linter.unusedSimpArgs false
section
variable {P : Program} {t : TypeId} {x y : Operand} {a b : ByteArray}
end
/-- An operation whose guard was passed over itself. -/
def staysU (l : List (Nat × Value)) (ops : List Oper) (o : Oper) : Bool :=
  match o.guard with
  | none => false
  | some (j, b) => match ops[j]? with
    | some oj => match oj.dst with
      | some d => match look l d with
        | some (.bool _) => false
        | some _ => true
        | none => false
      | none => false
    | none => false
section
variable {P : Program} {ops : List Oper} {Q : Exit → Act → World → Prop} {a : Act} {w w' : World} {n : Nat} {l : List (Nat × Value)} {o : Oper} {v : Value} {rest : List Oper}
theorem Sl.unwantedU (h : Sl a n l) (hp : staysU l ops o = true) : Region.wanted o (yielded ops.toArray a.tmps) = false := by
  unfold Region.wanted
  unfold staysU at hp
  split at hp
  · cases hp
  · rename_i j b hg
    rw [hg]
    split at hp
    · rename_i oj hj
      split at hp
      · rename_i d hd
        split at hp
        · cases hp
        · rename_i v' hb hv
          have := h.holds d _ hv
          cases v' <;> first | (exact absurd rfl (hb _)) | simp [yielded, hj, hd, this]
        · cases hp
      · cases hp
    · cases hp
theorem seq_skipU (hA : Sl a n l) (hg : staysU l ops o = true) {d : Nat} (hdst : o.dst = some d) (hd : Nat.blt d n = true)
    (hk : ∀ a', Sl a' n ((d, undef) :: l) → wpList P ops.toArray Q rest a' w) : wpList P ops.toArray Q (o :: rest) a w := by
  unfold wpList
  rw [hA.unwantedU hg, if_neg (by simp), hdst]
  exact hk _ (hA.put hd undef)
end
end Go.Proofs.YtbajcflbimmnhaaGreatDoor
namespace Go.Proofs.YtbajcflbimmnhaaGreatDoor
open Go.RowKit
set_option linter.unusedVariables false
set_option linter.unusedSimpArgs false
end Go.Proofs.YtbajcflbimmnhaaGreatDoor
namespace Go.Proofs.YtbajcflbimmnhaaGreatDoor
open Go.RowKit
set_option linter.unusedVariables false
set_option linter.unusedSimpArgs false
end Go.Proofs.YtbajcflbimmnhaaGreatDoor
namespace Go.Proofs.YtbajcflbimmnhaaGreatDoor
open Go.RowKit
set_option linter.unusedVariables false
set_option linter.unusedSimpArgs false
end Go.Proofs.YtbajcflbimmnhaaGreatDoor
namespace Go.Proofs.YtbajcflbimmnhaaGreatDoor
open Go.RowKit
set_option linter.unusedVariables false
set_option linter.unusedSimpArgs false
end Go.Proofs.YtbajcflbimmnhaaGreatDoor
namespace Go.Proofs.YtbajcflbimmnhaaGreatDoor
open Go.RowKit
set_option linter.unusedVariables false
set_option linter.unusedSimpArgs false
theorem and_or_add : ∀ (n x y : Nat), x < 2 ^ n → y < 2 ^ n → (x &&& y) + (x ||| y) = x + y ∧ (x ^^^ y) + (x &&& y) = x ||| y
  | 0, x, y, hx, hy => by
    obtain rfl : x = 0 := by simpa using hx
    obtain rfl : y = 0 := by simpa using hy
    exact ⟨rfl, rfl⟩
  | n + 1, x, y, hx, hy => by
    obtain ⟨h1, h2⟩ := and_or_add n (x / 2) (y / 2) (by rw [Nat.pow_succ] at hx; omega) (by rw [Nat.pow_succ] at hy; omega)
    rw [← Nat.and_div_two, ← Nat.or_div_two] at h1 h2
    rw [← Nat.xor_div_two] at h2
    have a1 : (x &&& y) % 2 = (x % 2) &&& (y % 2) := Nat.and_mod_two_pow (n := 1)
    have a2 : (x ||| y) % 2 = (x % 2) ||| (y % 2) := Nat.or_mod_two_pow (n := 1)
    have a3 : (x ^^^ y) % 2 = (x % 2) ^^^ (y % 2) := Nat.xor_mod_two_pow (n := 1)
    rcases Nat.mod_two_eq_zero_or_one x with e1 | e1 <;> rcases Nat.mod_two_eq_zero_or_one y with e2 | e2 <;>
      · rw [e1, e2] at a1 a2 a3
        simp only [Nat.zero_and, Nat.and_self, Nat.or_self, Nat.zero_or, Nat.or_zero, Nat.and_zero, Nat.xor_self, Nat.zero_xor, Nat.xor_zero] at a1 a2 a3
        omega
/-- The whole number of a row without end. -/
def zrow (b : Bool) (y : Nat) : Int := if b = true then -((y : Int) + 1) else (y : Int)
theorem rowL_succ (b : Bool) (y n : Nat) : rowL b y (n + 1) = rowL b y n ++ [rwd b y n] := by simp [rowL, List.range_succ]
theorem xor_ones {x : Nat} (h : x < 4294967296) : x ^^^ 4294967295 = 4294967295 - x := by
  have k := and_or_add 32 x 4294967295 h (by decide)
  have e : x &&& 4294967295 = x := by
    rw [show (4294967295 : Nat) = 2 ^ 32 - 1 from rfl, Nat.and_two_pow_sub_one_eq_mod]
    exact Nat.mod_eq_of_lt h
  omega
theorem pw_succ' (n : Nat) : pw (n + 1) = pw n * 4294967296 := by rw [pw_succ, Nat.mul_comm]
theorem lt_pw_of_len {y n : Nat} (h : (words y).length ≤ n) : y < pw n := (Nat.div_eq_zero_iff_lt (pw_pos n)).1 (div_words_length y n h)
theorem rowL_val (b : Bool) (y : Nat) : ∀ n, (val (rowL b y n) : Int) = (if b = true then (pw n : Int) - 1 - ((y % pw n : Nat) : Int) else ((y % pw n : Nat) : Int))
  | 0 => by cases b <;> simp [rowL, pw, Nat.mod_one, val_nil]
  | n + 1 => by
    have ih := rowL_val b y n
    have hs : y % pw (n + 1) = y % pw n + pw n * (y / pw n % 4294967296) := by rw [pw_succ', Nat.mod_mul]
    rw [rowL_succ, val_snoc, rowL_len]
    have hp := pw_succ' n
    have hl : y / pw n % 4294967296 < 4294967296 := Nat.mod_lt _ (by decide)
    unfold rwd
    cases b with
    | false =>
      simp only [Bool.toNat_false, Nat.zero_mul, Nat.xor_zero] at *
      simp only [Bool.false_eq_true, if_false] at ih ⊢
      rw [hs]
      generalize pw n * (y / pw n % 4294967296) = A at *
      omega
    | true =>
      simp only [Bool.toNat_true, Nat.one_mul] at *
      rw [xor_ones hl]
      simp only [if_true] at ih ⊢
      rw [hs, hp]
      have e : pw n * (4294967295 - y / pw n % 4294967296) + pw n * (y / pw n % 4294967296) = pw n * 4294967295 := by rw [← Nat.mul_add]; congr 1; omega
      generalize pw n * (y / pw n % 4294967296) = A at *
      generalize pw n * (4294967295 - y / pw n % 4294967296) = C at *
      omega
theorem zrow_val {b : Bool} {y n : Nat} (h : (words y).length ≤ n) : zrow b y = (val (rowL b y n) : Int) - ((b.toNat * pw n : Nat) : Int) := by
  have hy : y < pw n := lt_pw_of_len h
  rw [rowL_val, Nat.mod_eq_of_lt hy]
  unfold zrow
  cases b with
  | false => simp
  | true => simp; omega
section
variable {fop : Nat → Nat → Nat} {fb : Bool → Bool → Bool} {b1 b2 : Bool} {y1 y2 : Nat}
end
section
variable {fop : Nat → Nat → Nat} {fb : Bool → Bool → Bool}
end
end Go.Proofs.YtbajcflbimmnhaaGreatDoor
namespace Go.Proofs.YtbajcflbimmnhaaGreatDoor
open Go.RowKit
set_option linter.unusedVariables false
set_option linter.unusedSimpArgs false
section
variable {P : Program} {md : Region.Mode} {ops : List Oper} {Q : Exit → Act → World → Prop} {S : World → Prop} {fuel : Nat} {listed : Array Bool} {a : Act} {w w' : World} {n : Nat} {l : List (Nat × Value)} {o : Oper} {v : Value}
end
section
variable {P : Program} {t : TypeId} {a b : Operand}
end
end Go.Proofs.YtbajcflbimmnhaaGreatDoor
namespace Go.Proofs.YtbajcflbimmnhaaGreatDoor
open Go.RowKit
set_option linter.unusedVariables false
set_option linter.unusedSimpArgs false
theorem zrow_mod (b : Bool) (y k : Nat) : zrow b y % ((2 ^ k : Nat) : Int) = ((fld b y 0 k : Nat) : Int) := by
  have hn : (words y).length ≤ (words y).length + k := by omega
  have e := zrow_val (b := b) hn
  have f := rowL_mod (b := b) (y := y) (n := (words y).length + k) (c := k) (by omega)
  have hp : pw ((words y).length + k) = 2 ^ k * 2 ^ (32 * ((words y).length + k) - k) := by rw [pw_two, ← Nat.pow_add]; congr 1; omega
  rw [e, hp, ← f, Nat.mul_left_comm, Int.natCast_mul (2 ^ k), Int.sub_mul_emod_self_left, Int.natCast_emod]
end Go.Proofs.YtbajcflbimmnhaaGreatDoor
namespace Go.Proofs.YtbajcflbimmnhaaGreatDoor
open Go.ChangeShapes Go.WideShapes Go.ChangeAt Go.RowKit Go.Joins Go.Deep
set_option linter.unusedVariables false
set_option linter.unusedSimpArgs false
set_option maxRecDepth 100000

section
variable {H : Type} {enc : TypeId × Value → H} {W : World}
theorem trod_bool {fuel : Nat} {v : Value} {x : DataW H × List MemPlace} (h : DataW.trod enc Tryz.prog W 0 (fun _ => true) true fuel 4 [v] = some x) : ∃ b, v = .bool b := by
  obtain ⟨b, h, _⟩ := DataW.trod_bool Tryz.underlying4 h
  exact ⟨b, by simpa using h⟩
theorem trod_words {fuel : Nat} {v : Value} {x : DataW H × List MemPlace} (h : DataW.trod enc Tryz.prog W 0 (fun _ => true) true fuel 23 [v] = some x) : ∃ ao c l, v = .slice ao l.length c ∧ Arg W ao c l := by
  rcases open_ints Tryz.underlying23 Tryz.underlying57 (by kernel_rfl) h with ⟨hcs, _⟩ | ⟨x, l, c, zs, hcs, _, hl, hm, hz, hx, hcell, hwz⟩
  · cases hcs
    exact ⟨none, 0, [], rfl, arg_nil W⟩
  · cases hcs
    obtain ⟨us, e, ha⟩ := arg_row hl hm (by simpa using hz) hcell hwz
    subst e
    exact ⟨_, _, us, rfl, ha⟩
theorem trod_rat {fuel : Nat} {v0 v1 v2 : Value} {x : DataW H × List MemPlace} (h : DataW.trod enc Tryz.prog W 0 (fun _ => true) true fuel 25 [v0, v1, v2] = some x) : ∃ b o1 c1 l1 o2 c2 l2, v0 = .bool b ∧ v1 = .slice o1 l1.length c1 ∧ v2 = .slice o2 l2.length c2 ∧ Arg W o1 c1 l1 ∧ Arg W o2 c2 l2 := by
  obtain ⟨y0, y1, y2, n, _, _, h0, h1, h2⟩ := trod_struct3 Tryz.underlying25 h
  have e0 : Tryz.prog.cellsOf 4 = 1 := by kernel_rfl
  have e1 : Tryz.prog.cellsOf 23 = 1 := by kernel_rfl
  simp only [e0, e1, List.drop_zero, List.take_succ_cons, List.take_zero, List.drop_succ_cons] at h0 h1 h2
  obtain ⟨b, rfl⟩ := trod_bool h0
  obtain ⟨o1, c1, l1, rfl, a1⟩ := trod_words h1
  obtain ⟨o2, c2, l2, rfl, a2⟩ := trod_words h2
  exact ⟨b, o1, c1, l1, o2, c2, l2, rfl, rfl, rfl, a1, a2⟩
theorem open_num {base : Nat} {v : Value} {d : DataW H} {p : List MemPlace} (hv : Value.okWide Tryz.prog W .any base 27 v) (h : DataW.Trod enc Tryz.prog W 0 (fun _ => true) true 27 v d p) :
    ∃ q o1 c1 o2 c2 o3 c3 o4 c4, v = numV q o1 c1 o2 c2 o3 c3 o4 c4 ∧ Nm W q o1 c1 o2 c2 o3 c3 o4 c4 ∧ LenQ q := by
  obtain ⟨cs, rfl, hsz⟩ := okWide_struct Tryz.underlying27 hv
  rw [show Tryz.prog.cellsOf 27 = 6 from by kernel_rfl] at hsz
  obtain ⟨cs⟩ := cs
  match cs, hsz with
  | [v0, v1, v2, v3, v4, v5], _ =>
    obtain ⟨fuel, hf⟩ := h
    obtain ⟨y0, y1, n, _, _, h0, h1⟩ := trod_struct2 Tryz.underlying27 hf
    have e : Tryz.prog.cellsOf 25 = 3 := by kernel_rfl
    simp only [Value.cells, e, List.drop_zero, List.take_succ_cons, List.take_zero, List.drop_succ_cons] at h0 h1
    obtain ⟨b1, o1, c1, l1, o2, c2, l2, rfl, rfl, rfl, a1, a2⟩ := trod_rat h0
    obtain ⟨b2, o3, c3, l3, o4, c4, l4, rfl, rfl, rfl, a3, a4⟩ := trod_rat h1
    exact ⟨⟨b1, l1, l2, b2, l3, l4⟩, o1, c1, o2, c2, o3, c3, o4, c4, rfl, ⟨⟨a1.rd, a1.nil, a1.caps⟩, ⟨a2.rd, a2.nil, a2.caps⟩, ⟨a3.rd, a3.nil, a3.caps⟩, ⟨a4.rd, a4.nil, a4.caps⟩⟩, ⟨a1.len, a2.len, a3.len, a4.len⟩⟩
end
end Go.Proofs.YtbajcflbimmnhaaGreatDoor
