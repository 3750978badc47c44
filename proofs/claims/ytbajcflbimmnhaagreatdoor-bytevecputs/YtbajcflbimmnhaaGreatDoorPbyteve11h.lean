/- Walks of the document's Put. The document's bytes of a number: helpers. Walks of the document's bytes of a number. Walks of the document's bytes of a number that has none. Both ways to put a number. The walk of the law of Put. Transcoders that come in as arguments. Rows of bytes that come in as arguments; the first part of a row, and of a text. -/
import Derived.Test.YtbajcflbimmnhaaGreatDoorPbyteve11g
import Derived.Test.YtbajcflbimmnhaaGreatDoorPbyteve11e
import Derived.Test.YtbajcflbimmnhaaGreatDoorProg
import Derived.WalkKit
import Derived.ProofKit
import Derived.OpenShut
import Derived.ChangeOld
import Derived.Lib.SmallJoins
import Derived.Deep.Strs
namespace Go.Proofs.YtbajcflbimmnhaaGreatDoor.G
open Go.RowKit
set_option linter.unusedVariables false
set_option linter.unusedSimpArgs false
set_option maxRecDepth 100000
theorem ByR_isS_27 : IsS Tryz.prog 27 6 := ⟨⟨_, Tryz.underlying27⟩, by kernel_rfl⟩
theorem rinB_any {w : World} {m : Nat} {ap n : Int} (hm : m ≤ 140737488351232) (hap0 : -9223372036854775808 ≤ ap) (hap1 : ap ≤ 9223372036854775807) (hn0 : -9223372036854775808 ≤ n) (hn1 : n ≤ 9223372036854775807) {c : Bool} (hc : (okSize n && inB m ap n) = c) : Calls Tryz.prog 20 #[.int .i64 ((m : Nat) : Int), .int .i64 ap, .int .i64 n] w fun e w' => e = .returned (.bool c) ∧ Below w.heap.size w w' := by
 have hM : Mg w w ([]) := Mg.start w
 refine walk_of (l := [(0, .int .i64 (((m : Nat) : Int))), (1, .int .i64 ap), (2, .int .i64 n)]) Tryz.func20 rfl Tryz.ntmps20 rfl rfl ?_
 intro Q hret hnorm hP a hA
 refine wp_seq_k (fun K1 hK1 => ?_)
 refine wp_region_lit ?_
 refine seq_do hA rfl rfl rfl (does_assign rfl) fun a hA => ?_
 refine seq_end ?_
 refine hK1 _ _ ?_
 refine wp_seq_k (fun K2 hK2 => ?_)
 refine wp_region_lit ?_
 refine seq_do hA rfl rfl rfl (does_move rfl) fun a hA => ?_
 rcases Bool.eq_false_or_eq_true (decide (1 ≤ n)) with hb3 | hb3
 ·
  have hb3' := of_decide_eq_true hb3
  refine seq_do (v := .bool true) hA rfl rfl rfl (does_bin rfl rfl (fun w => (bin_geq w).trans (by rw [hb3]))) fun a hA => ?_
  refine seq_do hA rfl rfl rfl (does_move rfl) fun a hA => ?_
  refine seq_do hA rfl rfl rfl (does_move rfl) fun a hA => ?_
  rcases Bool.eq_false_or_eq_true (decide (n ≤ 64)) with hb4 | hb4
  ·
   have hb4' := of_decide_eq_true hb4
   refine seq_do (v := .bool true) hA rfl rfl rfl (does_bin rfl rfl (fun w => (bin_leq w).trans (by rw [hb4]))) fun a hA => ?_
   refine seq_do (v := .bool true) hA rfl rfl rfl (does_pick rfl rfl rfl rfl) fun a hA => ?_
   refine seq_do hA rfl rfl rfl (does_move rfl) fun a hA => ?_
   refine seq_do hA rfl rfl rfl (does_move rfl) fun a hA => ?_
   rcases Bool.eq_false_or_eq_true (decide (0 ≤ ap)) with hb5 | hb5
   ·
    have hb5' := of_decide_eq_true hb5
    refine seq_do (v := .bool true) hA rfl rfl rfl (does_bin rfl rfl (fun w => (bin_geq w).trans (by rw [hb5]))) fun a hA => ?_
    refine seq_do (v := .bool true) hA rfl rfl rfl (does_pick rfl rfl rfl rfl) fun a hA => ?_
    refine seq_do hA rfl rfl rfl (does_move rfl) fun a hA => ?_
    refine seq_do hA rfl rfl rfl (does_move rfl) fun a hA => ?_
    refine seq_do hA rfl rfl rfl (does_move rfl) fun a hA => ?_
    rcases Bool.eq_false_or_eq_true (decide (n ≤ ((m : Nat) : Int))) with hb6 | hb6
    ·
     have hb6' := of_decide_eq_true hb6
     refine seq_do (v := .bool true) hA rfl rfl rfl (does_bin rfl rfl (fun w => (bin_geq w).trans (by rw [hb6]))) fun a hA => ?_
     refine seq_do (v := .bool true) hA rfl rfl rfl (does_pick rfl rfl rfl rfl) fun a hA => ?_
     refine seq_do hA rfl rfl rfl (does_move rfl) fun a hA => ?_
     refine seq_do hA rfl rfl rfl (does_move rfl) fun a hA => ?_
     refine seq_do hA rfl rfl rfl (does_move rfl) fun a hA => ?_
     refine seq_do hA rfl rfl rfl (does_move rfl) fun a hA => ?_
     refine seq_do (v := .int .i64 (((m : Nat) : Int) - n)) hA rfl rfl rfl (does_bin rfl rfl (ar_sub (in_i64 (by omega) (by omega)))) fun a hA => ?_
     rcases Bool.eq_false_or_eq_true (decide (ap ≤ ((m : Nat) : Int) - n)) with hb7 | hb7
     ·
      have hb7' := of_decide_eq_true hb7
      refine seq_do (v := .bool true) hA rfl rfl rfl (does_bin rfl rfl (fun w => (bin_leq w).trans (by rw [hb7]))) fun a hA => ?_
      refine seq_do (v := .bool true) hA rfl rfl rfl (does_pick rfl rfl rfl rfl) fun a hA => ?_
      refine seq_do hA rfl rfl rfl (does_assign rfl) fun a hA => ?_
      refine seq_end ?_
      refine hK2 _ _ ?_
      refine wp_ret ?_
      refine hret _ _ ?_
      refine ends (v := .bool true) hA rfl (.cons (res_tmp rfl) .nil) rfl ?_
      subst hc
      exact ⟨by rw [show (okSize n && inB m ap n) = true from by unfold okSize inB; simp; omega], hM.bel⟩
     ·
      have hb7' := of_decide_eq_false hb7
      refine seq_do (v := .bool false) hA rfl rfl rfl (does_bin rfl rfl (fun w => (bin_leq w).trans (by rw [hb7]))) fun a hA => ?_
      refine seq_do (v := .bool false) hA rfl rfl rfl (does_pick rfl rfl rfl rfl) fun a hA => ?_
      refine seq_do hA rfl rfl rfl (does_assign rfl) fun a hA => ?_
      refine seq_end ?_
      refine hK2 _ _ ?_
      refine wp_ret ?_
      refine hret _ _ ?_
      refine ends (v := .bool false) hA rfl (.cons (res_tmp rfl) .nil) rfl ?_
      subst hc
      exact ⟨by rw [show (okSize n && inB m ap n) = false from by unfold okSize inB; simp; omega], hM.bel⟩
    ·
     have hb6' := of_decide_eq_false hb6
     refine seq_do (v := .bool false) hA rfl rfl rfl (does_bin rfl rfl (fun w => (bin_geq w).trans (by rw [hb6]))) fun a hA => ?_
     refine seq_do (v := .bool false) hA rfl rfl rfl (does_pick rfl rfl rfl rfl) fun a hA => ?_
     refine seq_do hA rfl rfl rfl (does_move rfl) fun a hA => ?_
     refine seq_skip hA rfl rfl rfl fun a hA => ?_
     refine seq_skip hA rfl rfl rfl fun a hA => ?_
     refine seq_skip hA rfl rfl rfl fun a hA => ?_
     refine seq_skip hA rfl rfl rfl fun a hA => ?_
     refine seq_skip hA rfl rfl rfl fun a hA => ?_
     refine seq_do (v := .bool false) hA rfl rfl rfl (does_pick rfl rfl rfl rfl) fun a hA => ?_
     refine seq_do hA rfl rfl rfl (does_assign rfl) fun a hA => ?_
     refine seq_end ?_
     refine hK2 _ _ ?_
     refine wp_ret ?_
     refine hret _ _ ?_
     refine ends (v := .bool false) hA rfl (.cons (res_tmp rfl) .nil) rfl ?_
     subst hc
     exact ⟨by rw [show (okSize n && inB m ap n) = false from by unfold okSize inB; simp; omega], hM.bel⟩
   ·
    have hb5' := of_decide_eq_false hb5
    refine seq_do (v := .bool false) hA rfl rfl rfl (does_bin rfl rfl (fun w => (bin_geq w).trans (by rw [hb5]))) fun a hA => ?_
    refine seq_do (v := .bool false) hA rfl rfl rfl (does_pick rfl rfl rfl rfl) fun a hA => ?_
    refine seq_do hA rfl rfl rfl (does_move rfl) fun a hA => ?_
    refine seq_skip hA rfl rfl rfl fun a hA => ?_
    refine seq_skip hA rfl rfl rfl fun a hA => ?_
    refine seq_skip hA rfl rfl rfl fun a hA => ?_
    refine seq_do (v := .bool false) hA rfl rfl rfl (does_pick rfl rfl rfl rfl) fun a hA => ?_
    refine seq_do hA rfl rfl rfl (does_move rfl) fun a hA => ?_
    refine seq_skip hA rfl rfl rfl fun a hA => ?_
    refine seq_skip hA rfl rfl rfl fun a hA => ?_
    refine seq_skip hA rfl rfl rfl fun a hA => ?_
    refine seq_skip hA rfl rfl rfl fun a hA => ?_
    refine seq_skip hA rfl rfl rfl fun a hA => ?_
    refine seq_do (v := .bool false) hA rfl rfl rfl (does_pick rfl rfl rfl rfl) fun a hA => ?_
    refine seq_do hA rfl rfl rfl (does_assign rfl) fun a hA => ?_
    refine seq_end ?_
    refine hK2 _ _ ?_
    refine wp_ret ?_
    refine hret _ _ ?_
    refine ends (v := .bool false) hA rfl (.cons (res_tmp rfl) .nil) rfl ?_
    subst hc
    exact ⟨by rw [show (okSize n && inB m ap n) = false from by unfold okSize inB; simp; omega], hM.bel⟩
  ·
   have hb4' := of_decide_eq_false hb4
   refine seq_do (v := .bool false) hA rfl rfl rfl (does_bin rfl rfl (fun w => (bin_leq w).trans (by rw [hb4]))) fun a hA => ?_
   refine seq_do (v := .bool false) hA rfl rfl rfl (does_pick rfl rfl rfl rfl) fun a hA => ?_
   refine seq_do hA rfl rfl rfl (does_move rfl) fun a hA => ?_
   refine seq_skip hA rfl rfl rfl fun a hA => ?_
   refine seq_skip hA rfl rfl rfl fun a hA => ?_
   refine seq_do (v := .bool false) hA rfl rfl rfl (does_pick rfl rfl rfl rfl) fun a hA => ?_
   refine seq_do hA rfl rfl rfl (does_move rfl) fun a hA => ?_
   refine seq_skip hA rfl rfl rfl fun a hA => ?_
   refine seq_skip hA rfl rfl rfl fun a hA => ?_
   refine seq_skip hA rfl rfl rfl fun a hA => ?_
   refine seq_do (v := .bool false) hA rfl rfl rfl (does_pick rfl rfl rfl rfl) fun a hA => ?_
   refine seq_do hA rfl rfl rfl (does_move rfl) fun a hA => ?_
   refine seq_skip hA rfl rfl rfl fun a hA => ?_
   refine seq_skip hA rfl rfl rfl fun a hA => ?_
   refine seq_skip hA rfl rfl rfl fun a hA => ?_
   refine seq_skip hA rfl rfl rfl fun a hA => ?_
   refine seq_skip hA rfl rfl rfl fun a hA => ?_
   refine seq_do (v := .bool false) hA rfl rfl rfl (does_pick rfl rfl rfl rfl) fun a hA => ?_
   refine seq_do hA rfl rfl rfl (does_assign rfl) fun a hA => ?_
   refine seq_end ?_
   refine hK2 _ _ ?_
   refine wp_ret ?_
   refine hret _ _ ?_
   refine ends (v := .bool false) hA rfl (.cons (res_tmp rfl) .nil) rfl ?_
   subst hc
   exact ⟨by rw [show (okSize n && inB m ap n) = false from by unfold okSize inB; simp; omega], hM.bel⟩
 ·
  have hb3' := of_decide_eq_false hb3
  refine seq_do (v := .bool false) hA rfl rfl rfl (does_bin rfl rfl (fun w => (bin_geq w).trans (by rw [hb3]))) fun a hA => ?_
  refine seq_do hA rfl rfl rfl (does_move rfl) fun a hA => ?_
  refine seq_skip hA rfl rfl rfl fun a hA => ?_
  refine seq_skip hA rfl rfl rfl fun a hA => ?_
  refine seq_do (v := .bool false) hA rfl rfl rfl (does_pick rfl rfl rfl rfl) fun a hA => ?_
  refine seq_do hA rfl rfl rfl (does_move rfl) fun a hA => ?_
  refine seq_skip hA rfl rfl rfl fun a hA => ?_
  refine seq_skip hA rfl rfl rfl fun a hA => ?_
  refine seq_do (v := .bool false) hA rfl rfl rfl (does_pick rfl rfl rfl rfl) fun a hA => ?_
  refine seq_do hA rfl rfl rfl (does_move rfl) fun a hA => ?_
  refine seq_skip hA rfl rfl rfl fun a hA => ?_
  refine seq_skip hA rfl rfl rfl fun a hA => ?_
  refine seq_skip hA rfl rfl rfl fun a hA => ?_
  refine seq_do (v := .bool false) hA rfl rfl rfl (does_pick rfl rfl rfl rfl) fun a hA => ?_
  refine seq_do hA rfl rfl rfl (does_move rfl) fun a hA => ?_
  refine seq_skip hA rfl rfl rfl fun a hA => ?_
  refine seq_skip hA rfl rfl rfl fun a hA => ?_
  refine seq_skip hA rfl rfl rfl fun a hA => ?_
  refine seq_skip hA rfl rfl rfl fun a hA => ?_
  refine seq_skip hA rfl rfl rfl fun a hA => ?_
  refine seq_do (v := .bool false) hA rfl rfl rfl (does_pick rfl rfl rfl rfl) fun a hA => ?_
  refine seq_do hA rfl rfl rfl (does_assign rfl) fun a hA => ?_
  refine seq_end ?_
  refine hK2 _ _ ?_
  refine wp_ret ?_
  refine hret _ _ ?_
  refine ends (v := .bool false) hA rfl (.cons (res_tmp rfl) .nil) rfl ?_
  subst hc
  exact ⟨by rw [show (okSize n && inB m ap n) = false from by unfold okSize inB; simp; omega], hM.bel⟩
theorem rput_no {w : World} {so : Option Addr} {ca : Nat} {l : List UInt8} (hb : Rb w so l) (hca : l.length ≤ ca) (hl : l.length ≤ 140737488351232) {ap size : Int} (hap0 : -9223372036854775808 ≤ ap) (hap1 : ap ≤ 9223372036854775807) (hsize0 : -9223372036854775808 ≤ size) (hsize1 : size ≤ 9223372036854775807) (bg sg : Bool) {q : Q6} {o1 o2 o3 o4 : Option Addr} {c1 c2 c3 c4 : Nat} (k1 : (okSize size && inB l.length ap size) = false) : Calls Tryz.prog 6 #[.slice so l.length ca, .int .i64 ap, .int .i64 size, .bool bg, .bool sg, numV q o1 c1 o2 c2 o3 c3 o4 c4] w fun e w' => e = .returned (.tuple #[.slice none 0 0, .int .i64 1]) ∧ Below w.heap.size w w' := by
 have hM : Mg w w ([]) := Mg.start w
 refine walk_of (l := [(0, .slice so l.length ca), (1, .int .i64 ap), (2, .int .i64 size), (3, .bool bg), (4, .bool sg), (5, .agg #[.bool q.b1, .slice o1 q.t1.length c1, .slice o2 q.q1.length c2, .bool q.b2, .slice o3 q.t2.length c3, .slice o4 q.q2.length c4])]) Tryz.func6 rfl Tryz.ntmps6 rfl rfl ?_
 intro Q hret hnorm hP a hA
 refine wp_seq_k (fun K1 hK1 => ?_)
 refine wp_region_lit ?_
 refine s_new (vs := [.bool q.b1, .slice o1 q.t1.length c1, .slice o2 q.q1.length c2, .bool q.b2, .slice o3 q.t2.length c3, .slice o4 q.q2.length c4]) (t := 27) hA hM rfl rfl rfl (fun g => .pointer (some ⟨g, 0, none⟩)) (does_box rfl rfl) (by decide) ?_
 intro g2 w3 hM a hA
 refine seq_do hA rfl rfl rfl (does_assign rfl) fun a hA => ?_
 refine seq_do hA rfl rfl rfl (does_assign rfl) fun a hA => ?_
 refine seq_end ?_
 refine hK1 _ _ ?_
 refine wp_seq_k (fun K4 hK4 => ?_)
 refine wp_seq_k (fun K5 hK5 => ?_)
 refine wp_region_lit ?_
 refine seq_do hA rfl rfl rfl (does_move rfl) fun a hA => ?_
 refine seq_do (v := .int .i64 (((l.length : Nat) : Int))) hA rfl rfl rfl (does_len Tryz.underlying22 rfl) fun a hA => ?_
 refine seq_do hA rfl rfl rfl (does_move rfl) fun a hA => ?_
 refine seq_do hA rfl rfl rfl (does_move rfl) fun a hA => ?_
 refine seq_call hA rfl rfl rfl (enters_func rfl rfl (fun w => by kernel_rfl)) (rinB_any hl (by omega) (by omega) (by omega) (by omega) k1) ?_
 rintro _ w7 ⟨rfl, hb6⟩
 replace hM := hM.call hb6
 refine ⟨_, rfl, ?_⟩
 intro a hA
 refine seq_do (v := .bool true) hA rfl rfl rfl (does_un rfl un_not) fun a hA => ?_
 refine seq_end ?_
 refine hK5 _ _ ?_
 refine wp_cond_true (hA.ev rfl) ?_
 refine wp_seq_k (fun K8 hK8 => ?_)
 refine wp_region_lit ?_
 refine seq_do hA rfl rfl rfl (does_assign rfl) fun a hA => ?_
 refine seq_do hA rfl rfl rfl (does_assign rfl) fun a hA => ?_
 refine seq_end ?_
 refine hK8 _ _ ?_
 refine wp_ret ?_
 refine hret _ _ ?_
 refine ends (v := .tuple #[.slice none 0 0, .int .i64 1]) hA rfl (.cons (res_tmp rfl) (.cons (res_tmp rfl) .nil)) rfl ?_
 exact ⟨rfl, hM.bel⟩
theorem rput_err {w : World} {so : Option Addr} {ca : Nat} {l : List UInt8} (hb : Rb w so l) (hca : l.length ≤ ca) (hl : l.length ≤ 140737488351232) {an n : Nat} (h1 : 1 ≤ n) (h64 : n ≤ 64) (hle : an + n ≤ l.length) (bg sg : Bool) {q : Q6} {o1 o2 o3 o4 : Option Addr} {c1 c2 c3 c4 : Nat} {ec : Int} (hec : ec ≠ 0) (hone : ∀ W, Below w.heap.size w W → Calls Tryz.prog 21 #[.int .i64 ((n : Nat) : Int), .bool bg, .bool sg, numV q o1 c1 o2 c2 o3 c3 o4 c4] W fun e w' => e = .returned (.tuple #[.slice none 0 0, .int .i64 ec]) ∧ Below W.heap.size W w') : Calls Tryz.prog 6 #[.slice so l.length ca, .int .i64 ((an : Nat) : Int), .int .i64 ((n : Nat) : Int), .bool bg, .bool sg, numV q o1 c1 o2 c2 o3 c3 o4 c4] w fun e w' => e = .returned (.tuple #[.slice none 0 0, .int .i64 ec]) ∧ Below w.heap.size w w' := by
 have k1 : (okSize ((n : Nat) : Int) && inB l.length ((an : Nat) : Int) ((n : Nat) : Int)) = true := by unfold okSize inB; simp; omega
 have hM : Mg w w ([]) := Mg.start w
 refine walk_of (l := [(0, .slice so l.length ca), (1, .int .i64 (((an : Nat) : Int))), (2, .int .i64 (((n : Nat) : Int))), (3, .bool bg), (4, .bool sg), (5, .agg #[.bool q.b1, .slice o1 q.t1.length c1, .slice o2 q.q1.length c2, .bool q.b2, .slice o3 q.t2.length c3, .slice o4 q.q2.length c4])]) Tryz.func6 rfl Tryz.ntmps6 rfl rfl ?_
 intro Q hret hnorm hP a hA
 refine wp_seq_k (fun K1 hK1 => ?_)
 refine wp_region_lit ?_
 refine s_new (vs := [.bool q.b1, .slice o1 q.t1.length c1, .slice o2 q.q1.length c2, .bool q.b2, .slice o3 q.t2.length c3, .slice o4 q.q2.length c4]) (t := 27) hA hM rfl rfl rfl (fun g => .pointer (some ⟨g, 0, none⟩)) (does_box rfl rfl) (by decide) ?_
 intro g2 w3 hM a hA
 refine seq_do hA rfl rfl rfl (does_assign rfl) fun a hA => ?_
 refine seq_do hA rfl rfl rfl (does_assign rfl) fun a hA => ?_
 refine seq_end ?_
 refine hK1 _ _ ?_
 refine wp_seq_k (fun K4 hK4 => ?_)
 refine wp_seq_k (fun K5 hK5 => ?_)
 refine wp_region_lit ?_
 refine seq_do hA rfl rfl rfl (does_move rfl) fun a hA => ?_
 refine seq_do (v := .int .i64 (((l.length : Nat) : Int))) hA rfl rfl rfl (does_len Tryz.underlying22 rfl) fun a hA => ?_
 refine seq_do hA rfl rfl rfl (does_move rfl) fun a hA => ?_
 refine seq_do hA rfl rfl rfl (does_move rfl) fun a hA => ?_
 refine seq_call hA rfl rfl rfl (enters_func rfl rfl (fun w => by kernel_rfl)) (rinB_any hl (by omega) (by omega) (by omega) (by omega) k1) ?_
 rintro _ w7 ⟨rfl, hb6⟩
 replace hM := hM.call hb6
 refine ⟨_, rfl, ?_⟩
 intro a hA
 refine seq_do (v := .bool false) hA rfl rfl rfl (does_un rfl un_not) fun a hA => ?_
 refine seq_end ?_
 refine hK5 _ _ ?_
 refine wp_cond_false (hA.ev rfl) ?_
 refine wp_skip ?_
 refine hK4 _ _ ?_
 refine wp_seq_k (fun K8 hK8 => ?_)
 refine wp_region_lit ?_
 refine seq_do hA rfl rfl rfl (does_move rfl) fun a hA => ?_
 refine seq_do hA rfl rfl rfl (does_move rfl) fun a hA => ?_
 refine seq_do hA rfl rfl rfl (does_move rfl) fun a hA => ?_
 refine seq_do hA rfl rfl rfl (m_loadS hM ByR_isS_27 rfl 0 rfl (cs := [.bool q.b1, .slice o1 q.t1.length c1, .slice o2 q.q1.length c2, .bool q.b2, .slice o3 q.t2.length c3, .slice o4 q.q2.length c4]) rfl rfl) fun a hA => ?_
 refine seq_call hA rfl rfl rfl (enters_func rfl rfl (fun w => by kernel_rfl)) (hone _ hM.bel) ?_
 rintro _ w10 ⟨rfl, hb9⟩
 replace hM := hM.call hb9
 refine ⟨_, rfl, ?_⟩
 intro a hA
 refine seq_do hA rfl rfl rfl (does_move rfl) fun a hA => ?_
 refine seq_do (v := .slice none 0 0) hA rfl rfl rfl (does_extract (vs := [.slice none 0 0, .int .i64 ec]) rfl rfl) fun a hA => ?_
 refine seq_do (v := .int .i64 ec) hA rfl rfl rfl (does_extract (vs := [.slice none 0 0, .int .i64 ec]) rfl rfl) fun a hA => ?_
 refine seq_do hA rfl rfl rfl (does_assign rfl) fun a hA => ?_
 refine seq_do hA rfl rfl rfl (does_assign rfl) fun a hA => ?_
 refine seq_end ?_
 refine hK8 _ _ ?_
 refine wp_seq_k (fun K11 hK11 => ?_)
 refine wp_seq_k (fun K12 hK12 => ?_)
 refine wp_region_lit ?_
 refine seq_do hA rfl rfl rfl (does_move rfl) fun a hA => ?_
 refine seq_do (v := .bool true) hA rfl rfl rfl (does_bin rfl rfl (fun w => (bin_neq w).trans (by rw [show ((ec != 0)) = true from (bne_iff_ne.2 hec)]))) fun a hA => ?_
 refine seq_end ?_
 refine hK12 _ _ ?_
 refine wp_cond_true (hA.ev rfl) ?_
 refine wp_seq_k (fun K13 hK13 => ?_)
 refine wp_region_lit ?_
 refine seq_do hA rfl rfl rfl (does_move rfl) fun a hA => ?_
 refine seq_do hA rfl rfl rfl (does_assign rfl) fun a hA => ?_
 refine seq_do hA rfl rfl rfl (does_assign rfl) fun a hA => ?_
 refine seq_end ?_
 refine hK13 _ _ ?_
 refine wp_ret ?_
 refine hret _ _ ?_
 refine ends (v := .tuple #[.slice none 0 0, .int .i64 ec]) hA rfl (.cons (res_tmp rfl) (.cons (res_tmp rfl) .nil)) rfl ?_
 exact ⟨rfl, hM.bel⟩
theorem rput_ok {w : World} {so : Option Addr} {ca : Nat} {l : List UInt8} (hb : Rb w so l) (hca : l.length ≤ ca) (hl : l.length ≤ 140737488351232) {an : Nat} {pl : List UInt8} (h1 : 1 ≤ pl.length) (h64 : pl.length ≤ 64) (hle : an + pl.length ≤ l.length) (bg sg : Bool) {q : Q6} {o1 o2 o3 o4 : Option Addr} {c1 c2 c3 c4 : Nat} (hone : ∀ W, Below w.heap.size w W → Calls Tryz.prog 21 #[.int .i64 ((pl.length : Nat) : Int), .bool bg, .bool sg, numV q o1 c1 o2 c2 o3 c3 o4 c4] W fun e w' => ∃ g, e = .returned (.tuple #[.slice (some ⟨g, 0, none⟩) pl.length pl.length, .int .i64 0]) ∧ Mg W w' [.row BY 1 (.slice (some ⟨g, 0, none⟩) pl.length pl.length) pl.length (Lib.byteCells pl)]) : Calls Tryz.prog 6 #[.slice so l.length ca, .int .i64 ((an : Nat) : Int), .int .i64 ((pl.length : Nat) : Int), .bool bg, .bool sg, numV q o1 c1 o2 c2 o3 c3 o4 c4] w fun e w' => ∃ v, e = .returned (.tuple #[v, .int .i64 0]) ∧ Mg w w' [.row BY 1 v (ovl an pl l).length (Lib.byteCells (ovl an pl l))] := by
 have k1 : (okSize ((pl.length : Nat) : Int) && inB l.length ((an : Nat) : Int) ((pl.length : Nat) : Int)) = true := by unfold okSize inB; simp; omega
 have hM : Mg w w ([]) := Mg.start w
 refine walk_of (l := [(0, .slice so l.length ca), (1, .int .i64 (((an : Nat) : Int))), (2, .int .i64 (((pl.length : Nat) : Int))), (3, .bool bg), (4, .bool sg), (5, .agg #[.bool q.b1, .slice o1 q.t1.length c1, .slice o2 q.q1.length c2, .bool q.b2, .slice o3 q.t2.length c3, .slice o4 q.q2.length c4])]) Tryz.func6 rfl Tryz.ntmps6 rfl rfl ?_
 intro Q hret hnorm hP a hA
 refine wp_seq_k (fun K1 hK1 => ?_)
 refine wp_region_lit ?_
 refine s_new (vs := [.bool q.b1, .slice o1 q.t1.length c1, .slice o2 q.q1.length c2, .bool q.b2, .slice o3 q.t2.length c3, .slice o4 q.q2.length c4]) (t := 27) hA hM rfl rfl rfl (fun g => .pointer (some ⟨g, 0, none⟩)) (does_box rfl rfl) (by decide) ?_
 intro g2 w3 hM a hA
 refine seq_do hA rfl rfl rfl (does_assign rfl) fun a hA => ?_
 refine seq_do hA rfl rfl rfl (does_assign rfl) fun a hA => ?_
 refine seq_end ?_
 refine hK1 _ _ ?_
 refine wp_seq_k (fun K4 hK4 => ?_)
 refine wp_seq_k (fun K5 hK5 => ?_)
 refine wp_region_lit ?_
 refine seq_do hA rfl rfl rfl (does_move rfl) fun a hA => ?_
 refine seq_do (v := .int .i64 (((l.length : Nat) : Int))) hA rfl rfl rfl (does_len Tryz.underlying22 rfl) fun a hA => ?_
 refine seq_do hA rfl rfl rfl (does_move rfl) fun a hA => ?_
 refine seq_do hA rfl rfl rfl (does_move rfl) fun a hA => ?_
 refine seq_call hA rfl rfl rfl (enters_func rfl rfl (fun w => by kernel_rfl)) (rinB_any hl (by omega) (by omega) (by omega) (by omega) k1) ?_
 rintro _ w7 ⟨rfl, hb6⟩
 replace hM := hM.call hb6
 refine ⟨_, rfl, ?_⟩
 intro a hA
 refine seq_do (v := .bool false) hA rfl rfl rfl (does_un rfl un_not) fun a hA => ?_
 refine seq_end ?_
 refine hK5 _ _ ?_
 refine wp_cond_false (hA.ev rfl) ?_
 refine wp_skip ?_
 refine hK4 _ _ ?_
 refine wp_seq_k (fun K8 hK8 => ?_)
 refine wp_region_lit ?_
 refine seq_do hA rfl rfl rfl (does_move rfl) fun a hA => ?_
 refine seq_do hA rfl rfl rfl (does_move rfl) fun a hA => ?_
 refine seq_do hA rfl rfl rfl (does_move rfl) fun a hA => ?_
 refine seq_do hA rfl rfl rfl (m_loadS hM ByR_isS_27 rfl 0 rfl (cs := [.bool q.b1, .slice o1 q.t1.length c1, .slice o2 q.q1.length c2, .bool q.b2, .slice o3 q.t2.length c3, .slice o4 q.q2.length c4]) rfl rfl) fun a hA => ?_
 refine seq_call hA rfl rfl rfl (enters_func rfl rfl (fun w => by kernel_rfl)) (hone _ hM.bel) ?_
 rintro _ w11 ⟨g9, rfl, hM10⟩
 replace hM : Mg w w11 (.row BY 1 (.slice (some ⟨g9, 0, none⟩) pl.length pl.length) pl.length ((Lib.byteCells pl)) :: .obj g2 (.cells #[.bool q.b1, .slice o1 q.t1.length c1, .slice o2 q.q1.length c2, .bool q.b2, .slice o3 q.t2.length c3, .slice o4 q.q2.length c4] 27) :: []) := (hM.both hM10 (noBld_cons (by simp) (noBld_quiet quietL_nil)) (noBld_cons (by simp) (noBld_quiet quietL_nil)))
 refine ⟨_, rfl, ?_⟩
 intro a hA
 refine seq_do hA rfl rfl rfl (does_move rfl) fun a hA => ?_
 refine seq_do (v := .slice (some ⟨g9, 0, none⟩) pl.length pl.length) hA rfl rfl rfl (does_extract (vs := [.slice (some ⟨g9, 0, none⟩) pl.length pl.length, .int .i64 0]) rfl rfl) fun a hA => ?_
 refine seq_do (v := .int .i64 0) hA rfl rfl rfl (does_extract (vs := [.slice (some ⟨g9, 0, none⟩) pl.length pl.length, .int .i64 0]) rfl rfl) fun a hA => ?_
 refine seq_do hA rfl rfl rfl (does_assign rfl) fun a hA => ?_
 refine seq_do hA rfl rfl rfl (does_assign rfl) fun a hA => ?_
 refine seq_end ?_
 refine hK8 _ _ ?_
 refine wp_seq_k (fun K12 hK12 => ?_)
 refine wp_seq_k (fun K13 hK13 => ?_)
 refine wp_region_lit ?_
 refine seq_do hA rfl rfl rfl (does_move rfl) fun a hA => ?_
 refine seq_do (v := .bool false) hA rfl rfl rfl (does_bin rfl rfl (fun w => by kernel_rfl)) fun a hA => ?_
 refine seq_end ?_
 refine hK13 _ _ ?_
 refine wp_cond_false (hA.ev rfl) ?_
 refine wp_skip ?_
 refine hK12 _ _ ?_
 refine wp_seq_k (fun K14 hK14 => ?_)
 refine wp_region_lit ?_
 refine s_lit (vs := []) hA hM rfl rfl rfl (does_buildSlice rfl (by kernel_rfl)) rfl rfl (noBld_cons (by simp) (noBld_cons (by simp) (noBld_quiet quietL_nil))) ?_
 intro g15 w16 hM a hA
 refine seq_do hA rfl rfl rfl (does_move rfl) fun a hA => ?_
 refine seq_do hA rfl rfl rfl (does_move rfl) fun a hA => ?_
 refine seq_do (v := .slice so ((l.take an).length) ca) hA rfl rfl rfl (does_upto (sz := 1) (hi := (l.take an).length) Tryz.underlying22 (by kernel_rfl) rfl rfl (by rw [List.length_take]; omega) (by rw [List.length_take]; omega)) fun a hA => ?_
 refine s_append (k := 0) (q := 0) (m := (l.take an).length) (xs := []) (news := Lib.byteCells (l.take an)) (L' := fun v17 => (.row BY 1 (v17) ((0 + (l.take an).length)) (([] ++ Lib.byteCells (l.take an))) :: .row BY 1 (.slice (some ⟨g9, 0, none⟩) pl.length pl.length) pl.length ((Lib.byteCells pl)) :: .obj g2 (.cells #[.bool q.b1, .slice o1 q.t1.length c1, .slice o2 q.q1.length c2, .bool q.b2, .slice o3 q.t2.length c3, .slice o4 q.q2.length c4] 27) :: [])) hA rfl rfl rfl (m_appendA Tryz.underlying22 (by kernel_rfl) hM 0 rfl rfl (show Rb _ _ ((l.take an)) from ((hb.takeZ an).below hM.bel)) rfl (by first | omega | (simp only [List.length_nil]; omega) | (simp only [List.length_append, List.length_take, List.length_drop, List.length_nil]; omega))) (fun _ => rfl) ?_
 intro v17 w18 hM a hA
 replace hM : Mg w w18 (.row BY 1 (v17) ((l.take an).length) ((Lib.byteCells (l.take an))) :: .row BY 1 (.slice (some ⟨g9, 0, none⟩) pl.length pl.length) pl.length ((Lib.byteCells pl)) :: .obj g2 (.cells #[.bool q.b1, .slice o1 q.t1.length c1, .slice o2 q.q1.length c2, .bool q.b2, .slice o3 q.t2.length c3, .slice o4 q.q2.length c4] 27) :: []) := by
  have h9 := hM
  rw [Nat.zero_add, List.nil_append] at h9
  exact h9
 obtain ⟨so19, ca20, rfl⟩ := owns_slice (hM.has 0 rfl)
 refine seq_do hA rfl rfl rfl (does_assign rfl) fun a hA => ?_
 refine seq_end ?_
 refine hK14 _ _ ?_
 refine wp_seq_k (fun K21 hK21 => ?_)
 refine wp_region_lit ?_
 refine seq_do hA rfl rfl rfl (does_move rfl) fun a hA => ?_
 refine seq_do hA rfl rfl rfl (does_move rfl) fun a hA => ?_
 refine s_append (k := 0) (q := (l.take an).length) (m := pl.length) (xs := (Lib.byteCells (l.take an))) (news := Lib.byteCells pl) (L' := fun v22 => (.row BY 1 (v22) (((l.take an).length + pl.length)) (((Lib.byteCells (l.take an)) ++ Lib.byteCells pl)) :: .row BY 1 (.slice (some ⟨g9, 0, none⟩) pl.length pl.length) pl.length ((Lib.byteCells pl)) :: .obj g2 (.cells #[.bool q.b1, .slice o1 q.t1.length c1, .slice o2 q.q1.length c2, .bool q.b2, .slice o3 q.t2.length c3, .slice o4 q.q2.length c4] 27) :: [])) hA rfl rfl rfl (m_appendA Tryz.underlying22 (by kernel_rfl) hM 0 rfl rfl (show Rb _ _ pl from (rb_row (bs := pl) hM 1 rfl).1) rfl (by first | omega | (simp only [List.length_nil]; omega) | (simp only [List.length_append, List.length_take, List.length_drop, List.length_nil]; omega))) (fun _ => rfl) ?_
 intro v22 w23 hM a hA
 replace hM : Mg w w23 (.row BY 1 (v22) (((l.take an) ++ pl).length) ((Lib.byteCells ((l.take an) ++ pl))) :: .row BY 1 (.slice (some ⟨g9, 0, none⟩) pl.length pl.length) pl.length ((Lib.byteCells pl)) :: .obj g2 (.cells #[.bool q.b1, .slice o1 q.t1.length c1, .slice o2 q.q1.length c2, .bool q.b2, .slice o3 q.t2.length c3, .slice o4 q.q2.length c4] 27) :: []) := by
  have h9 := hM
  rw [← List.length_append, ← Lib.byteCells_append] at h9
  exact h9
 obtain ⟨so24, ca25, rfl⟩ := owns_slice (hM.has 0 rfl)
 refine seq_do hA rfl rfl rfl (does_assign rfl) fun a hA => ?_
 refine seq_end ?_
 refine hK21 _ _ ?_
 refine wp_seq_k (fun K26 hK26 => ?_)
 refine wp_region_lit ?_
 refine seq_do hA rfl rfl rfl (does_move rfl) fun a hA => ?_
 refine seq_do hA rfl rfl rfl (does_move rfl) fun a hA => ?_
 refine seq_do hA rfl rfl rfl (does_move rfl) fun a hA => ?_
 refine seq_do hA rfl rfl rfl (does_move rfl) fun a hA => ?_
 refine seq_do (v := .int .i64 (((an + pl.length : Nat) : Int))) hA rfl rfl rfl (does_bin rfl rfl (ar_add ((in_i64 (by omega) (by omega)).trans (by omega)))) fun a hA => ?_
 refine seq_do (v := .slice ((dropA so ca (an + pl.length))) ((l.drop (an + pl.length)).length) ((ca - (an + pl.length)))) hA rfl rfl rfl (does_fromZ (lo := an + pl.length) Tryz.underlying22 (by kernel_rfl) rfl rfl rfl (by omega) (by rw [List.length_drop])) fun a hA => ?_
 refine s_append (k := 0) (q := ((l.take an) ++ pl).length) (m := (l.drop (an + pl.length)).length) (xs := (Lib.byteCells ((l.take an) ++ pl))) (news := Lib.byteCells (l.drop (an + pl.length))) (L' := fun v27 => (.row BY 1 (v27) ((((l.take an) ++ pl).length + (l.drop (an + pl.length)).length)) (((Lib.byteCells ((l.take an) ++ pl)) ++ Lib.byteCells (l.drop (an + pl.length)))) :: .row BY 1 (.slice (some ⟨g9, 0, none⟩) pl.length pl.length) pl.length ((Lib.byteCells pl)) :: .obj g2 (.cells #[.bool q.b1, .slice o1 q.t1.length c1, .slice o2 q.q1.length c2, .bool q.b2, .slice o3 q.t2.length c3, .slice o4 q.q2.length c4] 27) :: [])) hA rfl rfl rfl (m_appendA Tryz.underlying22 (by kernel_rfl) hM 0 rfl rfl (show Rb _ _ ((l.drop (an + pl.length))) from ((hb.drop ca (an + pl.length) hca).below hM.bel)) rfl (by first | omega | (simp only [List.length_nil]; omega) | (simp only [List.length_append, List.length_take, List.length_drop, List.length_nil]; omega))) (fun _ => rfl) ?_
 intro v27 w28 hM a hA
 replace hM : Mg w w28 (.row BY 1 (v27) ((((l.take an) ++ pl) ++ (l.drop (an + pl.length))).length) ((Lib.byteCells (((l.take an) ++ pl) ++ (l.drop (an + pl.length))))) :: .row BY 1 (.slice (some ⟨g9, 0, none⟩) pl.length pl.length) pl.length ((Lib.byteCells pl)) :: .obj g2 (.cells #[.bool q.b1, .slice o1 q.t1.length c1, .slice o2 q.q1.length c2, .bool q.b2, .slice o3 q.t2.length c3, .slice o4 q.q2.length c4] 27) :: []) := by
  have h9 := hM
  rw [← List.length_append, ← Lib.byteCells_append] at h9
  exact h9
 obtain ⟨so29, ca30, rfl⟩ := owns_slice (hM.has 0 rfl)
 refine seq_do hA rfl rfl rfl (does_assign rfl) fun a hA => ?_
 refine seq_do hA rfl rfl rfl (does_assign rfl) fun a hA => ?_
 refine seq_end ?_
 refine hK26 _ _ ?_
 refine wp_ret ?_
 refine hret _ _ ?_
 refine ends (v := .tuple #[.slice so29 ((((l.take an) ++ pl) ++ (l.drop (an + pl.length))).length) ca30, .int .i64 0]) hA rfl (.cons (res_tmp rfl) (.cons (res_tmp rfl) .nil)) rfl ?_
 exact ⟨_, rfl, hM.sub (.cons_cons _ (.cons _ (.cons _ (.refl _))))⟩
end Go.Proofs.YtbajcflbimmnhaaGreatDoor.G
namespace Go.Proofs.YtbajcflbimmnhaaGreatDoor
open Go.RowKit
set_option linter.unusedVariables false
set_option linter.unusedSimpArgs false

section
variable {P : Program} {w0 w : World} {l : List (Nat × Value)} {L : List (Nat × List Value)} {R : List (Option Addr × List Nat)} {O : List (Option Addr × Nat × List Nat)} {ops : List Oper} {Q : Exit → Act → World → Prop} {a : Act} {n : Nat} {o : Oper} {rest : List Oper} {d : Nat}
theorem seq_newB (hA : Sl a n l) (hS : St w0 w L R O) (hg : passes l ops o = true) (hdst : o.dst = some d) (hd : Nat.blt d n = true) {us : List Nat} {t : TypeId} {m : Nat} (he : Does P l o w (.slice (some ⟨w.heap.size, 0, none⟩) m m) (w.alloc (.cells (U us).toArray t))) (hu : Dig us)
    (hk : ∀ g w', St w0 w' L ((some ⟨g, 0, none⟩, us) :: R) O → Below w.heap.size w w' → ∀ a', Sl a' n ((d, .slice (some ⟨g, 0, none⟩) m m) :: l) → wpList P ops.toArray Q rest a' w') : wpList P ops.toArray Q (o :: rest) a w :=
  seq_do hA hg hdst hd he (hk _ _ (hS.newU us t hu) ((Below.refl _ w).alloc (Nat.le_refl _) _))
theorem does_ixZ {dst : Option Tmp} {ty : TypeId} {pos : String} {after : Array Edge} {guard : Option (Nat × Bool)} {t e : TypeId} (hu : P.underlying t = some (.slice e)) (he : (P.info? e).map (·.size) = some 1) {x i : Operand} {g n c k : Nat} {z : Int} (hx : ev l x = some (.slice (some ⟨g, 0, none⟩) n c)) (hi : ev l i = some (.int .i64 z)) (hz : z = (k : Nat)) (hk : k < n) : Does P l ⟨dst, .indexAddr t x i, ty, pos, after, guard⟩ w (.pointer (some ⟨g, k * 1, none⟩)) w := by
  have h := does_indexRow (w := w) (dst := dst) (ty := ty) (pos := pos) (after := after) (guard := guard) (off := 0) hu he hx hi hz rfl hk
  rw [Nat.zero_add] at h
  rw [Nat.mul_one]
  exact h
end
def oI (z : Int) : Int := if z = 0 then 0 else if z < 0 then -1 else 1
theorem oI_lt {z : Int} : oI z < 0 ↔ z < 0 := by
  unfold oI
  split
  · omega
  · split <;> omega
theorem oI_ge {z : Int} : 0 ≤ oI z ↔ 0 ≤ z := by
  unfold oI
  split
  · omega
  · split <;> omega
theorem rsumG {w : World} {b1 b2 : Bool} {x y : Nat} {xl yl : List Nat} {a1 a2 : Option Addr} {ac1 ac2 : Nat} (hx : xl = words x) (hy : yl = words y) (ha1 : Sc w a1 ac1 xl) (ha2 : Sc w a2 ac2 [1]) {u1 u2 : Option Addr} {uc1 uc2 : Nat} (hu1 : Sc w u1 uc1 yl) (hu2 : Sc w u2 uc2 [1]) (lx : (words x).length ≤ 512) (ly : (words y).length ≤ 512) {z : Int} (hz : sgn b1 x + sgn b2 y = z) :
    Calls Tryz.prog 38 #[.agg #[.bool b1, .slice a1 xl.length ac1, .slice a2 1 ac2], .agg #[.bool b2, .slice u1 yl.length uc1, .slice u2 1 uc2]] w (AnsF w (rb z) (words z.natAbs) [1]) := by
  subst hx hy
  have h1 : (words 1).length = 1 := by rw [words_one]; rfl
  rw [← words_one] at hu2 ha2
  have h := rsum_any (b1 := b1) (b2 := b2) ha1 ha2 hu1 hu2 (by omega) (by omega) (by omega) (by omega) (by omega) (by omega)
  have e : sgn b1 x * ((1 : Nat) : Int) + sgn b2 y * ((1 : Nat) : Int) = z := by rw [← hz]; simp
  rw [e] at h
  have e2 : rt z (1 * 1) = z.natAbs := by unfold rt; simp
  have e3 : rq z (1 * 1) = 1 := by unfold rq; simp
  rw [e2, e3, h1, words_one] at h
  exact h
theorem rsumP {w : World} {x y : Nat} {a1 a2 : Option Addr} {ac1 ac2 : Nat} (ha1 : Sc w a1 ac1 (words x)) (ha2 : Sc w a2 ac2 [1]) {u1 u2 : Option Addr} {uc1 uc2 : Nat} (hu1 : Sc w u1 uc1 (words y)) (hu2 : Sc w u2 uc2 [1]) (lx : (words x).length ≤ 512) (ly : (words y).length ≤ 512) (hxy : x ≤ y) :
    Calls Tryz.prog 38 #[.agg #[.bool true, .slice a1 (words x).length ac1, .slice a2 1 ac2], .agg #[.bool false, .slice u1 (words y).length uc1, .slice u2 1 uc2]] w (AnsF w false (words (y - x)) [1]) := by
  have h := rsumG (b1 := true) (b2 := false) rfl rfl ha1 ha2 hu1 hu2 lx ly (z := ((y - x : Nat) : Int)) (by show -((x : Nat) : Int) + ((y : Nat) : Int) = _; omega)
  rw [Int.natAbs_natCast, show rb ((y - x : Nat) : Int) = false from decide_eq_false (by omega)] at h
  exact h
theorem rover256 {w : World} {ao bo : Option Addr} {x : Nat} (ca cb : Nat) (ha : Rd w ao (words x)) (hb : Rd w bo [256]) (hx : (words x).length ≤ 512) :
    Calls Tryz.prog 39 #[.slice ao (words x).length ca, .slice bo 1 cb] w (Row2 w (words (x / 256)) (words (x % 256))) := by
  have h := over_any (y := 256) ca cb ha (words_256.symm ▸ hb) (by omega) (by rw [words_256]; decide) (by decide)
  rw [show (words 256).length = 1 from by rw [words_256]; rfl] at h
  exact h
theorem conv0 (V : Nat) : IntKind.u8.wrap (((words (V % 256)).getD 0 0 : Nat) : Int) = ((V % 256 : Nat) : Int) := by
  rw [words_getD, G.wrap8]
  show ((V % 256 / 1 % 4294967296 % 256 : Nat) : Int) = _
  omega
theorem lbI_zero (n F : Nat) : G.lbI n F 0 = List.replicate n 0 := by
  unfold G.lbI
  refine List.ext_getElem? fun i => ?_
  rw [List.getElem?_map, List.getElem?_replicate]
  by_cases h : i < n
  · rw [List.getElem?_range h, if_pos h]; rfl
  · rw [List.getElem?_eq_none (by simp; omega), if_neg h]; rfl
theorem lowI_made (bg : Bool) (n F : Nat) : (madeCells (Value.int .u8 0).cells (n * 1)).toList = Lib.byteCells (G.lowB bg (G.lbI n F 0)) := by
  rw [G.lbI_made n F, lbI_zero]
  unfold G.lowB
  cases bg <;> simp
theorem lbI_done' (n F : Nat) : G.lbI n F n = G.leB n F := by
  unfold G.lbI G.leB
  refine List.map_congr_left fun j hj => ?_
  rw [if_pos (List.mem_range.1 hj)]
theorem set_rev {α : Type} (l : List α) {i : Nat} (v : α) (h : i < l.length) : l.reverse.set (l.length - 1 - i) v = (l.set i v).reverse := by
  refine List.ext_getElem? fun k => ?_
  by_cases hk : k < l.length
  · rw [List.getElem?_reverse (by rw [List.length_set]; exact hk), List.length_set]
    by_cases e : k = l.length - 1 - i
    · subst e
      rw [List.getElem?_set_self (by rw [List.length_reverse]; omega), show l.length - 1 - (l.length - 1 - i) = i from by omega, List.getElem?_set_self h]
    · rw [List.getElem?_set_ne (fun q => e q.symm), List.getElem?_reverse hk, List.getElem?_set_ne (by omega)]
  · rw [List.getElem?_eq_none (by simp; omega), List.getElem?_eq_none (by simp; omega)]
theorem lowI_step {bg : Bool} {n F k V i : Nat} {c : Int} (h : k < n) (hV : V = F / 256 ^ k) (hi : i = if bg = true then n - 1 - k else k) (hc : c = ((V % 256 : Nat) : Int)) : G.over (Lib.byteCells (G.lowB bg (G.lbI n F k))) (i * 1) [.int .u8 c] = Lib.byteCells (G.lowB bg (G.lbI n F (k + 1))) := by
  have h1 := G.lbI_step (n := n) (F := F) (i := k) h
  rw [Nat.mul_one] at h1
  have h2 : (Lib.byteCells (G.lbI n F k)).set k (.int .u8 ((F / 256 ^ k % 256 : Nat) : Int)) = Lib.byteCells (G.lbI n F (k + 1)) := h1
  subst hc hV
  rw [Nat.mul_one]
  show (Lib.byteCells (G.lowB bg (G.lbI n F k))).set i _ = _
  cases bg with
  | false => subst hi; exact h2
  | true =>
    have e : ∀ p : List UInt8, Lib.byteCells (G.lowB true p) = (Lib.byteCells p).reverse := fun p => by unfold Lib.byteCells G.lowB; rw [if_pos rfl, List.map_reverse]
    have hl : (Lib.byteCells (G.lbI n F k)).length = n := by rw [Lib.byteCells_length, G.lbI_len]
    have hi' : i = (Lib.byteCells (G.lbI n F k)).length - 1 - k := by rw [hi, hl]; rfl
    rw [e, e, hi', set_rev _ _ (by omega), h2]
theorem fld_pos {x n : Nat} (h : x < 2 ^ (n * 8)) : fld false x 0 (n * 8) = x := by
  have hz := zrow_mod false x (n * 8)
  unfold zrow at hz
  rw [if_neg (by decide)] at hz
  have e : ((x : Nat) : Int) % ((2 ^ (n * 8) : Nat) : Int) = ((x % 2 ^ (n * 8) : Nat) : Int) := rfl
  rw [e, Nat.mod_eq_of_lt h] at hz
  exact (Int.ofNat.inj hz).symm
theorem back_pos {x n : Nat} (bg : Bool) (h : x < 2 ^ (n * 8)) : G.numQ bg false (G.lowB bg (G.leB n x)) = Q6.whole false x := by
  unfold G.numQ
  rw [if_neg (by rintro ⟨k, _⟩; cases k), G.low_low, G.leN_leB n x (by rw [show (256 : Nat) = 2 ^ 8 from rfl, ← Nat.pow_mul, Nat.mul_comm]; exact h)]
end Go.Proofs.YtbajcflbimmnhaaGreatDoor
namespace Go.Proofs.YtbajcflbimmnhaaGreatDoor
open Go.RowKit
set_option linter.unusedVariables false
set_option linter.unusedSimpArgs false
set_option maxRecDepth 100000
theorem GvJ_is1_23 : Is1 Tryz.prog 23 := ⟨⟨_, Tryz.underlying23, rfl⟩, by kernel_rfl⟩
theorem GvJ_is1_4 : Is1 Tryz.prog 4 := ⟨⟨_, Tryz.underlying4, rfl⟩, by kernel_rfl⟩
theorem GvJ_is1_57 : Is1 Tryz.prog 57 := ⟨⟨_, Tryz.underlying57, rfl⟩, by kernel_rfl⟩
theorem GvJ_fld_25_0 : FieldAt Tryz.prog 25 0 0 := ⟨_, _, Tryz.underlying25, rfl, rfl, by kernel_rfl⟩
theorem GvJ_fld_25_1 : FieldAt Tryz.prog 25 1 1 := ⟨_, _, Tryz.underlying25, rfl, rfl, by kernel_rfl⟩
theorem GvJ_fld_27_0 : FieldAt Tryz.prog 27 0 0 := ⟨_, _, Tryz.underlying27, rfl, rfl, by kernel_rfl⟩
theorem GvJ_isS_25 : IsS Tryz.prog 25 3 := ⟨⟨_, Tryz.underlying25⟩, by kernel_rfl⟩
theorem GvJ_isS_27 : IsS Tryz.prog 27 6 := ⟨⟨_, Tryz.underlying27⟩, by kernel_rfl⟩
theorem rorderW {w : World} {b1 b2 b3 : Bool} {x y : Nat} {xl yl : List Nat} {a1 a2 : Option Addr} {ac1 ac2 : Nat} (ha1 : Sc w a1 ac1 xl) (ha2 : Sc w a2 ac2 ([1])) {u1 u2 : Option Addr} {uc1 uc2 : Nat} (hu1 : Sc w u1 uc1 yl) (hu2 : Sc w u2 uc2 ([1])) (hx : xl = words x) (hy : yl = words y) (lx : (words x).length ≤ 512) (ly : (words y).length ≤ 512) (hb3 : (!b2 && decide (0 < yl.length)) = b3) {z : Int} (hz : sgn b1 x + sgn b3 y = z) : Calls Tryz.prog 37 #[.agg #[.bool b1, .slice a1 xl.length ac1, .slice a2 ([1]).length ac2], .agg #[.bool b2, .slice u1 yl.length uc1, .slice u2 ([1]).length uc2]] w fun e w' => e = .returned (.int .i64 (oI z)) ∧ Below w.heap.size w w' := by
 have f1 : (words z.natAbs).length = 0 ↔ z = 0 := by
  have h9 := words_len_pos (x := z.natAbs)
  omega
 have hS : St w w [] [(u2, [1]), (u1, yl), (a2, [1]), (a1, xl)] [] := ((((St.start w).addR ha1.rd).addR ha2.rd).addR hu1.rd).addR hu2.rd
 refine walk_of (l := [(0, .agg #[.bool b1, .slice a1 xl.length ac1, .slice a2 1 ac2]), (1, .agg #[.bool b2, .slice u1 yl.length uc1, .slice u2 1 uc2])]) Tryz.func37 rfl Tryz.ntmps37 rfl rfl ?_
 intro Q hret hnorm hP a hA
 refine wp_seq_k (fun K1 hK1 => ?_)
 refine wp_region_lit ?_
 refine seq_new hA hS rfl rfl rfl (fun g => .pointer (some ⟨g, 0, none⟩)) (does_box rfl rfl) rfl ?_
 intro g2 w3 hS a hA
 refine seq_new hA hS rfl rfl rfl (fun g => .pointer (some ⟨g, 0, none⟩)) (does_box rfl rfl) rfl ?_
 intro g4 w5 hS a hA
 refine seq_do hA rfl rfl rfl (does_assign rfl) fun a hA => ?_
 refine seq_end ?_
 refine hK1 _ _ ?_
 refine wp_seq_k (fun K6 hK6 => ?_)
 have hJ26 : ∀ a w1, (∃ (J17g : Nat) (J18 : Option Addr) (J19 : Nat) (J20 : Option Addr) (J21 : Nat), Sl a 16 [(0, .agg #[.bool b1, .slice a1 xl.length ac1, .slice a2 1 ac2]), (1, .agg #[.bool b2, .slice u1 yl.length uc1, .slice u2 1 uc2]), (4, .int .i64 0), (5, .pointer (some ⟨J17g, 0, none⟩))] ∧ St w w1 [(J17g, [.bool (rb z), .slice J18 ((words z.natAbs).length) J19, .slice J20 1 J21]), (g4, [.bool b2, .slice u1 yl.length uc1, .slice u2 1 uc2]), (g2, [.bool b1, .slice a1 xl.length ac1, .slice a2 1 ac2])] [(J20, [1]), (J18, words z.natAbs), (u2, [1]), (u1, yl), (a2, [1]), (a1, xl)] [] ∧ (J20 = none → J21 = 0) ∧ ([1] : List Nat).length ≤ J21 ∧ (J18 = none → J19 = 0) ∧ (words z.natAbs : List Nat).length ≤ J19) → K6 a w1 := by
  clear hA hS
  rintro a w27 ⟨J17g, J18, J19, J20, J21, hA, hS, hn22, hc23, hn24, hc25⟩
  refine hK6 _ _ ?_
  refine wp_seq_k (fun K28 hK28 => ?_)
  refine wp_seq_k (fun K29 hK29 => ?_)
  refine wp_region_lit ?_
  refine seq_do (v := .pointer (some ⟨J17g, 1, none⟩)) hA rfl rfl rfl (does_field GvJ_fld_25_1 rfl rfl) fun a hA => ?_
  refine seq_do hA rfl rfl rfl (does_load1 hS GvJ_is1_23 rfl 0 rfl rfl) fun a hA => ?_
  refine seq_do (v := .int .i64 ((((words z.natAbs).length : Nat) : Int))) hA rfl rfl rfl (does_len Tryz.underlying23 rfl) fun a hA => ?_
  rcases Bool.eq_false_or_eq_true (((((words z.natAbs).length : Nat) : Int) == 0)) with hb30 | hb30
  ·
   have hb30' := eq_of_beq hb30
   refine seq_do (v := .bool true) hA rfl rfl rfl (does_bin rfl rfl (fun w => (bin_eql w).trans (by rw [hb30]))) fun a hA => ?_
   refine seq_end ?_
   refine hK29 _ _ ?_
   refine wp_cond_true (hA.ev rfl) ?_
   refine wp_seq_k (fun K31 hK31 => ?_)
   refine wp_region_lit ?_
   refine seq_do hA rfl rfl rfl (does_assign rfl) fun a hA => ?_
   refine seq_end ?_
   refine hK31 _ _ ?_
   refine wp_ret ?_
   refine hret _ _ ?_
   refine ends (v := .int .i64 0) hA rfl (.cons (res_tmp rfl) .nil) rfl ?_
   exact ⟨by unfold oI; rw [if_pos (f1.1 (by omega))], hS.bel⟩
  ·
   have hb30' := ne_of_beq_false hb30
   refine seq_do (v := .bool false) hA rfl rfl rfl (does_bin rfl rfl (fun w => (bin_eql w).trans (by rw [hb30]))) fun a hA => ?_
   refine seq_end ?_
   refine hK29 _ _ ?_
   refine wp_cond_false (hA.ev rfl) ?_
   refine wp_skip ?_
   refine hK28 _ _ ?_
   refine wp_seq_k (fun K32 hK32 => ?_)
   refine wp_seq_k (fun K33 hK33 => ?_)
   refine wp_region_lit ?_
   refine seq_do (v := .pointer (some ⟨J17g, 0, none⟩)) hA rfl rfl rfl (does_field GvJ_fld_25_0 rfl rfl) fun a hA => ?_
   refine seq_do hA rfl rfl rfl (does_load1 hS GvJ_is1_4 rfl 0 rfl rfl) fun a hA => ?_
   refine seq_end ?_
   refine hK33 _ _ ?_
   refine wp_cond_split (t := rb z) (hA.ev rfl) (fun hc34 => ?_) (fun hc34 => ?_)
   ·
    refine wp_seq_k (fun K35 hK35 => ?_)
    refine wp_region_lit ?_
    refine seq_do hA rfl rfl rfl (does_assign rfl) fun a hA => ?_
    refine seq_end ?_
    refine hK35 _ _ ?_
    refine wp_ret ?_
    refine hret _ _ ?_
    refine ends (v := .int .i64 (-1)) hA rfl (.cons (res_tmp rfl) .nil) rfl ?_
    exact ⟨by unfold oI; rw [if_neg (fun k9 => by have := f1.2 k9; omega), if_pos (of_decide_eq_true hc34)], hS.bel⟩
   ·
    refine wp_skip ?_
    refine hK32 _ _ ?_
    refine wp_seq_k (fun K36 hK36 => ?_)
    refine wp_region_lit ?_
    refine seq_do hA rfl rfl rfl (does_assign rfl) fun a hA => ?_
    refine seq_end ?_
    refine hK36 _ _ ?_
    refine wp_ret ?_
    refine hret _ _ ?_
    refine ends (v := .int .i64 1) hA rfl (.cons (res_tmp rfl) .nil) rfl ?_
    exact ⟨by unfold oI; rw [if_neg (fun k9 => by have := f1.2 k9; omega), if_neg (of_decide_eq_false hc34)], hS.bel⟩
 refine wp_draw (S := fun w1 => St w w1 [(g4, [.bool b2, .slice u1 yl.length uc1, .slice u2 1 uc2]), (g2, [.bool b1, .slice a1 xl.length ac1, .slice a2 1 ac2])] [(u2, [1]), (u1, yl), (a2, [1]), (a1, xl)] []) (by kernel_rfl) ?_
 replace hS := hS.drew
 refine any_tk hA 0 rfl rfl rfl rfl hP hS (fun w1 hS => does_loadS hS GvJ_isS_25 rfl 1 rfl (cs := [.bool b1, .slice a1 xl.length ac1, .slice a2 1 ac2]) rfl rfl) fun a hA => ?_
 refine any_tk hA 1 rfl rfl rfl rfl hP hS (fun w1 hS => does_loadS hS GvJ_isS_25 rfl 0 rfl (cs := [.bool b2, .slice u1 yl.length uc1, .slice u2 1 uc2]) rfl rfl) fun a hA => ?_
 refine any_many (rs := [2, 4]) (by kernel_rfl) (by simp) ⟨?_, ?_, trivial⟩
 ·
  refine op_call hA 2 rfl rfl rfl rfl (enters_func  rfl rfl (fun w => by kernel_rfl)) (rminus_any hb3) ?_
  rintro _ w38 ⟨rfl, hb37⟩
  replace hS := hS.call hb37
  refine ⟨_, rfl, hS, ?_⟩
  intro a hA
  refine any_many (rs := [3, 4]) (by kernel_rfl) (by simp) ⟨?_, ?_, trivial⟩
  ·
   refine op_call hA 3 rfl rfl rfl rfl (enters_func  rfl rfl (fun w => by kernel_rfl)) (rsumG (x := x) (y := y) hx hy ⟨(hS.rd 3 rfl), ha1.nil, ha1.cap⟩ ⟨(hS.rd 2 rfl), ha2.nil, ha2.cap⟩ ⟨(hS.rd 1 rfl), hu1.nil, hu1.cap⟩ ⟨(hS.rd 0 rfl), hu2.nil, hu2.cap⟩ lx ly hz) ?_
   rintro _ w43 ⟨f39_1, f39_c1, f39_2, f39_c2, rfl, hs40, hs41, hb42⟩
   replace hS := hS.call hb42
   replace hS := hS.addR hs40.rd
   replace hS := hS.addR hs41.rd
   refine ⟨_, rfl, (hS.partD (.refl _) 2 rfl (.refl _)), ?_⟩
   intro a hA
   refine any_one (by kernel_rfl) (op_new (vs := [.bool false, .slice none 0 0, .slice none 0 0]) (t := 25) hA hS 4 rfl rfl rfl rfl (fun g => .pointer (some ⟨g, 0, none⟩)) (does_alloc (z := .agg #[.bool false, .slice none 0 0, .slice none 0 0]) (by kernel_rfl) rfl) rfl ?_)
   intro g44 w45 hS
   refine ⟨(hS.partD (.cons _ (.cons_cons _ (.cons_cons _ .slnil))) 2 rfl (.refl _)), ?_⟩
   intro a hA
   refine any_one (by kernel_rfl) (op_store (us := [.bool (rb z), .slice f39_1 ((words z.natAbs).length) f39_c1, .slice f39_2 1 f39_c2]) hA hS 5 rfl rfl rfl (sets_store rfl rfl rfl (by kernel_rfl) hS 0 rfl rfl rfl) 0 rfl rfl rfl rfl ?_)
   intro w46 hS
   refine ⟨(hS.partD (.cons _ (.cons_cons _ (.cons_cons _ .slnil))) 2 rfl (.refl _)), ?_⟩
   refine any_end (by kernel_rfl) ?_
   refine hJ26 _ _ ⟨g44, f39_1, f39_c1, f39_2, f39_c2, hA.keep _ ⟨rfl, rfl, rfl, rfl, trivial⟩, (St.pickRL hS ⟨⟨0, rfl⟩, ⟨⟨1, rfl⟩, ⟨⟨2, rfl⟩, ⟨⟨3, rfl⟩, ⟨⟨4, rfl⟩, ⟨⟨5, rfl⟩, trivial⟩⟩⟩⟩⟩⟩ [0, 1, 2] rfl (by decide)), hs41.nil, hs41.cap, hs40.nil, hs40.cap⟩
  ·
   refine op_new (vs := [.bool false, .slice none 0 0, .slice none 0 0]) (t := 25) hA hS 4 rfl rfl rfl rfl (fun g => .pointer (some ⟨g, 0, none⟩)) (does_alloc (z := .agg #[.bool false, .slice none 0 0, .slice none 0 0]) (by kernel_rfl) rfl) rfl ?_
   intro g47 w48 hS
   refine ⟨(hS.partD (.cons _ (.cons_cons _ (.cons_cons _ .slnil))) 0 rfl (.refl _)), ?_⟩
   intro a hA
   refine any_one (by kernel_rfl) (op_call hA 3 rfl rfl rfl rfl (enters_func  rfl rfl (fun w => by kernel_rfl)) (rsumG (x := x) (y := y) hx hy ⟨(hS.rd 3 rfl), ha1.nil, ha1.cap⟩ ⟨(hS.rd 2 rfl), ha2.nil, ha2.cap⟩ ⟨(hS.rd 1 rfl), hu1.nil, hu1.cap⟩ ⟨(hS.rd 0 rfl), hu2.nil, hu2.cap⟩ lx ly hz) ?_)
   rintro _ w53 ⟨f49_1, f49_c1, f49_2, f49_c2, rfl, hs50, hs51, hb52⟩
   replace hS := hS.call hb52
   replace hS := hS.addR hs50.rd
   replace hS := hS.addR hs51.rd
   refine ⟨_, rfl, (hS.partD (.cons _ (.cons_cons _ (.cons_cons _ .slnil))) 2 rfl (.refl _)), ?_⟩
   intro a hA
   refine any_one (by kernel_rfl) (op_store (us := [.bool (rb z), .slice f49_1 ((words z.natAbs).length) f49_c1, .slice f49_2 1 f49_c2]) hA hS 5 rfl rfl rfl (sets_store rfl rfl rfl (by kernel_rfl) hS 0 rfl rfl rfl) 0 rfl rfl rfl rfl ?_)
   intro w54 hS
   refine ⟨(hS.partD (.cons _ (.cons_cons _ (.cons_cons _ .slnil))) 2 rfl (.refl _)), ?_⟩
   refine any_end (by kernel_rfl) ?_
   refine hJ26 _ _ ⟨g47, f49_1, f49_c1, f49_2, f49_c2, hA.keep _ ⟨rfl, rfl, rfl, rfl, trivial⟩, (St.pickRL hS ⟨⟨0, rfl⟩, ⟨⟨1, rfl⟩, ⟨⟨2, rfl⟩, ⟨⟨3, rfl⟩, ⟨⟨4, rfl⟩, ⟨⟨5, rfl⟩, trivial⟩⟩⟩⟩⟩⟩ [0, 1, 2] rfl (by decide)), hs51.nil, hs51.cap, hs50.nil, hs50.cap⟩
 ·
  refine op_new (vs := [.bool false, .slice none 0 0, .slice none 0 0]) (t := 25) hA hS 4 rfl rfl rfl rfl (fun g => .pointer (some ⟨g, 0, none⟩)) (does_alloc (z := .agg #[.bool false, .slice none 0 0, .slice none 0 0]) (by kernel_rfl) rfl) rfl ?_
  intro g55 w56 hS
  refine ⟨(hS.partD (.cons _ (.cons_cons _ (.cons_cons _ .slnil))) 0 rfl (.refl _)), ?_⟩
  intro a hA
  refine any_one (by kernel_rfl) (op_call hA 2 rfl rfl rfl rfl (enters_func  rfl rfl (fun w => by kernel_rfl)) (rminus_any hb3) ?_)
  rintro _ w58 ⟨rfl, hb57⟩
  replace hS := hS.call hb57
  refine ⟨_, rfl, (hS.partD (.cons _ (.cons_cons _ (.cons_cons _ .slnil))) 0 rfl (.refl _)), ?_⟩
  intro a hA
  refine any_one (by kernel_rfl) (op_call hA 3 rfl rfl rfl rfl (enters_func  rfl rfl (fun w => by kernel_rfl)) (rsumG (x := x) (y := y) hx hy ⟨(hS.rd 3 rfl), ha1.nil, ha1.cap⟩ ⟨(hS.rd 2 rfl), ha2.nil, ha2.cap⟩ ⟨(hS.rd 1 rfl), hu1.nil, hu1.cap⟩ ⟨(hS.rd 0 rfl), hu2.nil, hu2.cap⟩ lx ly hz) ?_)
  rintro _ w63 ⟨f59_1, f59_c1, f59_2, f59_c2, rfl, hs60, hs61, hb62⟩
  replace hS := hS.call hb62
  replace hS := hS.addR hs60.rd
  replace hS := hS.addR hs61.rd
  refine ⟨_, rfl, (hS.partD (.cons _ (.cons_cons _ (.cons_cons _ .slnil))) 2 rfl (.refl _)), ?_⟩
  intro a hA
  refine any_one (by kernel_rfl) (op_store (us := [.bool (rb z), .slice f59_1 ((words z.natAbs).length) f59_c1, .slice f59_2 1 f59_c2]) hA hS 5 rfl rfl rfl (sets_store rfl rfl rfl (by kernel_rfl) hS 0 rfl rfl rfl) 0 rfl rfl rfl rfl ?_)
  intro w64 hS
  refine ⟨(hS.partD (.cons _ (.cons_cons _ (.cons_cons _ .slnil))) 2 rfl (.refl _)), ?_⟩
  refine any_end (by kernel_rfl) ?_
  refine hJ26 _ _ ⟨g55, f59_1, f59_c1, f59_2, f59_c2, hA.keep _ ⟨rfl, rfl, rfl, rfl, trivial⟩, (St.pickRL hS ⟨⟨0, rfl⟩, ⟨⟨1, rfl⟩, ⟨⟨2, rfl⟩, ⟨⟨3, rfl⟩, ⟨⟨4, rfl⟩, ⟨⟨5, rfl⟩, trivial⟩⟩⟩⟩⟩⟩ [0, 1, 2] rfl (by decide)), hs61.nil, hs61.cap, hs60.nil, hs60.cap⟩
set_option maxHeartbeats 1000000 in
theorem rone_b_false {b : Bool} {w : World} {x n : Nat} {a1 a2 a3 a4 : Option Addr} {ac1 ac2 ac3 ac4 : Nat} (ha : Nm w (Q6.whole b x) a1 ac1 a2 ac2 a3 ac3 a4 ac4) (hx : (words x).length ≤ 512) (h1 : 1 ≤ n) (h64 : n ≤ 64) (bg : Bool) (hbx : b.toNat ≤ x) : Calls Tryz.prog 21 #[.int .i64 ((n : Nat) : Int), .bool bg, .bool false, numV (Q6.whole b x) a1 ac1 a2 ac2 a3 ac3 a4 ac4] w fun e w' => ((oI (sgn b x + sgn false 0) < 0 ∨ 0 ≤ oI (sgn b x + sgn true (2 ^ (8 * n)))) ∧ e = .returned (.tuple #[.slice none 0 0, .int .i64 4]) ∧ Below w.heap.size w w') ∨ ((¬ oI (sgn b x + sgn false 0) < 0 ∧ ¬ 0 ≤ oI (sgn b x + sgn true (2 ^ (8 * n)))) ∧ ∃ g, e = .returned (.tuple #[.slice (some ⟨g, 0, none⟩) n n, .int .i64 0]) ∧ G.Mg w w' [.row G.BY 1 (.slice (some ⟨g, 0, none⟩) n n) n (Lib.byteCells (G.lowB bg (G.leB n x)))]) := by
 have hl8 : (words (2 ^ (8 * n))).length ≤ 512 := by rw [pow_8]; exact G.small_words h64 (Nat.le_refl _)
 have hl7 : (words (2 ^ (8 * n - 1))).length ≤ 512 := Nat.le_trans (words_mono (Nat.pow_le_pow_right (by decide) (Nat.sub_le _ _))) hl8
 have hp7 : 2 ^ (8 * n) = 2 * 2 ^ (8 * n - 1) := by rw [← Nat.pow_succ']; congr 1; omega
 have hs : soundQ (Q6.whole b x) = true := soundQ_whole hx hbx
 have hwh : wholeQ (Q6.whole b x) = true := wholeQ_whole hx hbx
 have hFl : (words x).length ≤ 512 := hx
 have hS : St w w [] [(a4, [1]), (a3, []), (a2, [1]), (a1, words x)] [] := ((((St.start w).addR ha.s1.rd).addR ha.s2.rd).addR ha.s3.rd).addR ha.s4.rd
 refine walk_of (l := [(0, .int .i64 (((n : Nat) : Int))), (1, .bool bg), (2, .bool false), (3, .agg #[.bool b, .slice a1 ((words x).length) ac1, .slice a2 1 ac2, .bool false, .slice a3 0 ac3, .slice a4 1 ac4])]) Tryz.func21 rfl Tryz.ntmps21 rfl rfl ?_
 intro Q hret hnorm hP a hA
 refine wp_seq_k (fun K1 hK1 => ?_)
 refine wp_region_lit ?_
 refine seq_new hA hS rfl rfl rfl (fun g => .pointer (some ⟨g, 0, none⟩)) (does_box rfl rfl) rfl ?_
 intro g2 w3 hS a hA
 refine seq_do hA rfl rfl rfl (does_assign rfl) fun a hA => ?_
 refine seq_do hA rfl rfl rfl (does_assign rfl) fun a hA => ?_
 refine seq_end ?_
 refine hK1 _ _ ?_
 refine wp_seq_k (fun K4 hK4 => ?_)
 refine wp_seq_k (fun K5 hK5 => ?_)
 refine wp_region_lit ?_
 refine seq_do hA rfl rfl rfl (does_loadS hS GvJ_isS_27 rfl 0 rfl (cs := [.bool b, .slice a1 ((words x).length) ac1, .slice a2 1 ac2, .bool false, .slice a3 0 ac3, .slice a4 1 ac4]) rfl rfl) fun a hA => ?_
 refine seq_call hA rfl rfl rfl (enters_func  rfl rfl (fun w => by kernel_rfl)) (rsoundQ_any (show Nm _ _ a1 ac1 a2 ac2 a3 ac3 a4 ac4 from ⟨⟨(hS.rd 3 rfl), ha.s1.nil, ha.s1.cap⟩, ⟨(hS.rd 2 rfl), ha.s2.nil, ha.s2.cap⟩, ⟨(hS.rd 1 rfl), ha.s3.nil, ha.s3.cap⟩, ⟨(hS.rd 0 rfl), ha.s4.nil, ha.s4.cap⟩⟩) (lenQ_whole hx) hs) ?_
 rintro _ w7 ⟨rfl, hb6⟩
 replace hS := hS.call hb6
 refine ⟨_, rfl, ?_⟩
 intro a hA
 refine seq_do (v := .bool false) hA rfl rfl rfl (does_un rfl un_not) fun a hA => ?_
 refine seq_end ?_
 refine hK5 _ _ ?_
 refine wp_cond_false (hA.ev rfl) ?_
 refine wp_skip ?_
 refine hK4 _ _ ?_
 refine wp_seq_k (fun K8 hK8 => ?_)
 refine wp_seq_k (fun K9 hK9 => ?_)
 refine wp_region_lit ?_
 refine seq_do hA rfl rfl rfl (does_loadS hS GvJ_isS_27 rfl 0 rfl (cs := [.bool b, .slice a1 ((words x).length) ac1, .slice a2 1 ac2, .bool false, .slice a3 0 ac3, .slice a4 1 ac4]) rfl rfl) fun a hA => ?_
 refine seq_call hA rfl rfl rfl (enters_func  rfl rfl (fun w => by kernel_rfl)) (rwholeQ_any (q := Q6.whole b x) (show Nm _ _ a1 ac1 a2 ac2 a3 ac3 a4 ac4 from ⟨⟨(hS.rd 3 rfl), ha.s1.nil, ha.s1.cap⟩, ⟨(hS.rd 2 rfl), ha.s2.nil, ha.s2.cap⟩, ⟨(hS.rd 1 rfl), ha.s3.nil, ha.s3.cap⟩, ⟨(hS.rd 0 rfl), ha.s4.nil, ha.s4.cap⟩⟩) (lenQ_whole hx) hwh) ?_
 rintro _ w11 ⟨rfl, hb10⟩
 replace hS := hS.call hb10
 refine ⟨_, rfl, ?_⟩
 intro a hA
 refine seq_do (v := .bool false) hA rfl rfl rfl (does_un rfl un_not) fun a hA => ?_
 refine seq_end ?_
 refine hK9 _ _ ?_
 refine wp_cond_false (hA.ev rfl) ?_
 refine wp_skip ?_
 refine hK8 _ _ ?_
 refine wp_seq_k (fun K12 hK12 => ?_)
 refine wp_region_lit ?_
 refine seq_newU (us := [1]) (t := 57) (m := 1) hA hS rfl rfl rfl (does_buildSlice rfl (by kernel_rfl)) (by simp [Dig]) ?_
 intro g13 w14 hS a hA
 refine seq_do hA rfl rfl rfl (does_move rfl) fun a hA => ?_
 refine seq_do (v := .int .i64 (((8 * n : Nat) : Int))) hA rfl rfl rfl (does_bin rfl rfl (ar_mul ((in_i64 (by omega) (by omega)).trans (by omega)))) fun a hA => ?_
 refine seq_call hA rfl rfl rfl (enters_func  rfl rfl (fun w => by kernel_rfl)) (rup1 _ (hS.rd 0 rfl) (n := 8 * n) (by omega)) ?_
 rintro _ w19 ⟨ro15, rc16, rfl, ho17, hb18⟩
 replace hS := hS.call hb18
 replace hS := hS.addR ho17.rd
 refine ⟨_, rfl, ?_⟩
 intro a hA
 refine seq_newU (us := [1]) (t := 57) (m := 1) hA hS rfl rfl rfl (does_buildSlice rfl (by kernel_rfl)) (by simp [Dig]) ?_
 intro g20 w21 hS a hA
 refine seq_do (v := .agg #[.bool false, .slice ro15 ((words (2 ^ (8 * n))).length) rc16, .slice (some ⟨g20, 0, none⟩) 1 1]) hA rfl rfl rfl (does_build rfl (fun w => by kernel_rfl)) fun a hA => ?_
 refine seq_new (vs := [.bool false, .slice none 0 0, .slice none 0 0]) (t := 25) hA hS rfl rfl rfl (fun g => .pointer (some ⟨g, 0, none⟩)) (does_alloc (z := .agg #[.bool false, .slice none 0 0, .slice none 0 0]) (by kernel_rfl) rfl) rfl ?_
 intro g22 w23 hS a hA
 refine seq_store (us := [.bool false, .slice ro15 ((words (2 ^ (8 * n))).length) rc16, .slice (some ⟨g20, 0, none⟩) 1 1]) hA hS rfl rfl (sets_store rfl rfl rfl (by kernel_rfl) hS 0 rfl rfl rfl) 0 rfl rfl rfl rfl ?_
 intro w24 hS
 refine seq_end ?_
 refine hK12 _ _ ?_
 refine wp_seq_k (fun K25 hK25 => ?_)
 refine wp_region_lit ?_
 refine seq_newU (us := [1]) (t := 57) (m := 1) hA hS rfl rfl rfl (does_buildSlice rfl (by kernel_rfl)) (by simp [Dig]) ?_
 intro g26 w27 hS a hA
 refine seq_do hA rfl rfl rfl (does_move rfl) fun a hA => ?_
 refine seq_do (v := .int .i64 (((8 * n : Nat) : Int))) hA rfl rfl rfl (does_bin rfl rfl (ar_mul ((in_i64 (by omega) (by omega)).trans (by omega)))) fun a hA => ?_
 refine seq_do (v := .int .i64 (((8 * n - 1 : Nat) : Int))) hA rfl rfl rfl (does_bin rfl rfl (fun w => (bin_sub (i64In (by omega) (by omega)) w).trans (by rw [show (((8 * n : Nat) : Int) - 1 : Int) = ((8 * n - 1 : Nat) : Int) from by omega]))) fun a hA => ?_
 refine seq_call hA rfl rfl rfl (enters_func  rfl rfl (fun w => by kernel_rfl)) (rup1 _ (hS.rd 0 rfl) (n := 8 * n - 1) (by omega)) ?_
 rintro _ w32 ⟨ro28, rc29, rfl, ho30, hb31⟩
 replace hS := hS.call hb31
 replace hS := hS.addR ho30.rd
 refine ⟨_, rfl, ?_⟩
 intro a hA
 refine seq_newU (us := [1]) (t := 57) (m := 1) hA hS rfl rfl rfl (does_buildSlice rfl (by kernel_rfl)) (by simp [Dig]) ?_
 intro g33 w34 hS a hA
 refine seq_do (v := .agg #[.bool false, .slice ro28 ((words (2 ^ (8 * n - 1))).length) rc29, .slice (some ⟨g33, 0, none⟩) 1 1]) hA rfl rfl rfl (does_build rfl (fun w => by kernel_rfl)) fun a hA => ?_
 refine seq_new (vs := [.bool false, .slice none 0 0, .slice none 0 0]) (t := 25) hA hS rfl rfl rfl (fun g => .pointer (some ⟨g, 0, none⟩)) (does_alloc (z := .agg #[.bool false, .slice none 0 0, .slice none 0 0]) (by kernel_rfl) rfl) rfl ?_
 intro g35 w36 hS a hA
 refine seq_store (us := [.bool false, .slice ro28 ((words (2 ^ (8 * n - 1))).length) rc29, .slice (some ⟨g33, 0, none⟩) 1 1]) hA hS rfl rfl (sets_store rfl rfl rfl (by kernel_rfl) hS 0 rfl rfl rfl) 0 rfl rfl rfl rfl ?_
 intro w37 hS
 refine seq_end ?_
 refine hK25 _ _ ?_
 refine wp_seq_k (fun K38 hK38 => ?_)
 have hJ60 : ∀ a w1, (∃ (J50g : Nat) (J51g : Nat) (J52 : Option Addr) (J53 : Nat) (J54 : Option Addr) (J55 : Nat), Sl a 101 [(0, .int .i64 (((n : Nat) : Int))), (1, .bool bg), (2, .bool false), (3, .agg #[.bool b, .slice a1 ((words x).length) ac1, .slice a2 1 ac2, .bool false, .slice a3 0 ac3, .slice a4 1 ac4]), (7, .pointer (some ⟨g2, 0, none⟩)), (8, .slice none 0 0), (9, .int .i64 0), (10, .pointer (some ⟨g22, 0, none⟩)), (11, .pointer (some ⟨g35, 0, none⟩)), (12, .pointer (some ⟨J50g, 0, none⟩)), (13, .pointer (some ⟨J51g, 0, none⟩)), (21, .agg #[.bool b, .slice a1 ((words x).length) ac1, .slice a2 1 ac2, .bool false, .slice a3 0 ac3, .slice a4 1 ac4]), (22, .bool true), (23, .bool false), (24, .agg #[.bool b, .slice a1 ((words x).length) ac1, .slice a2 1 ac2, .bool false, .slice a3 0 ac3, .slice a4 1 ac4]), (25, .bool true), (26, .bool false), (27, .slice (some ⟨g13, 0, none⟩) 1 1), (28, .int .i64 (((n : Nat) : Int))), (29, .int .i64 (((8 * n : Nat) : Int))), (30, .slice ro15 ((words (2 ^ (8 * n))).length) rc16), (31, .slice (some ⟨g20, 0, none⟩) 1 1), (32, .agg #[.bool false, .slice ro15 ((words (2 ^ (8 * n))).length) rc16, .slice (some ⟨g20, 0, none⟩) 1 1]), (33, .slice (some ⟨g26, 0, none⟩) 1 1), (34, .int .i64 (((n : Nat) : Int))), (35, .int .i64 (((8 * n : Nat) : Int))), (36, .int .i64 (((8 * n - 1 : Nat) : Int))), (37, .slice ro28 ((words (2 ^ (8 * n - 1))).length) rc29), (38, .slice (some ⟨g33, 0, none⟩) 1 1), (39, .agg #[.bool false, .slice ro28 ((words (2 ^ (8 * n - 1))).length) rc29, .slice (some ⟨g33, 0, none⟩) 1 1])] ∧ St w w1 [(J51g, [.bool false, .slice ro15 ((words (2 ^ (8 * n))).length) rc16, .slice (some ⟨g20, 0, none⟩) 1 1]), (J50g, [.bool false, .slice J52 0 J53, .slice J54 1 J55]), (g35, [.bool false, .slice ro28 ((words (2 ^ (8 * n - 1))).length) rc29, .slice (some ⟨g33, 0, none⟩) 1 1]), (g22, [.bool false, .slice ro15 ((words (2 ^ (8 * n))).length) rc16, .slice (some ⟨g20, 0, none⟩) 1 1]), (g2, [.bool b, .slice a1 ((words x).length) ac1, .slice a2 1 ac2, .bool false, .slice a3 0 ac3, .slice a4 1 ac4])] [(J54, [1]), (J52, []), (some ⟨g33, 0, none⟩, [1]), (ro28, words (2 ^ (8 * n - 1))), (some ⟨g26, 0, none⟩, [1]), (some ⟨g20, 0, none⟩, [1]), (ro15, words (2 ^ (8 * n))), (some ⟨g13, 0, none⟩, [1]), (a4, [1]), (a3, []), (a2, [1]), (a1, words x)] [] ∧ (J54 = none → J55 = 0) ∧ ([1] : List Nat).length ≤ J55 ∧ (J52 = none → J53 = 0) ∧ ([] : List Nat).length ≤ J53) → K38 a w1 := by
  clear hA hS
  rintro a w61 ⟨J50g, J51g, J52, J53, J54, J55, hA, hS, hn56, hc57, hn58, hc59⟩
  refine hK38 _ _ ?_
  refine wp_seq_k (fun K62 hK62 => ?_)
  refine wp_seq_k (fun K63 hK63 => ?_)
  refine wp_region_lit ?_
  refine seq_do hA rfl rfl rfl (does_move rfl) fun a hA => ?_
  refine seq_end ?_
  refine hK63 _ _ ?_
  refine wp_cond_false (hA.ev rfl) ?_
  refine wp_skip ?_
  refine hK62 _ _ ?_
  refine wp_seq_k (fun K64 hK64 => ?_)
  refine wp_seq_k (fun K65 hK65 => ?_)
  refine wp_region_lit ?_
  refine seq_do (v := .pointer (some ⟨g2, 0, none⟩)) hA rfl rfl rfl (does_field GvJ_fld_27_0 rfl rfl) fun a hA => ?_
  refine seq_do hA rfl rfl rfl (does_loadS hS GvJ_isS_25 rfl 4 rfl (cs := [.bool b, .slice a1 ((words x).length) ac1, .slice a2 1 ac2]) rfl rfl) fun a hA => ?_
  refine seq_do hA rfl rfl rfl (does_loadS hS GvJ_isS_25 rfl 1 rfl (cs := [.bool false, .slice J52 0 J53, .slice J54 1 J55]) rfl rfl) fun a hA => ?_
  refine seq_call hA rfl rfl rfl (enters_func  rfl rfl (fun w => by kernel_rfl)) (rorderW (b1 := b) (b2 := false) (b3 := false) (x := x) (y := 0) ⟨(hS.rd 11 rfl), ha.s1.nil, ha.s1.cap⟩ ⟨(hS.rd 10 rfl), ha.s2.nil, ha.s2.cap⟩ ⟨(hS.rd 1 rfl), hn58, hc59⟩ ⟨(hS.rd 0 rfl), hn56, hc57⟩ rfl words_zero.symm hx (by rw [words_zero]; decide) rfl rfl) ?_
  rintro _ w67 ⟨rfl, hb66⟩
  replace hS := hS.call hb66
  refine ⟨_, rfl, ?_⟩
  intro a hA
  rcases Bool.eq_false_or_eq_true (decide (oI (sgn b x + sgn false 0) < 0)) with hb68 | hb68
  ·
   have hb68' := of_decide_eq_true hb68
   refine seq_do (v := .bool true) hA rfl rfl rfl (does_bin rfl rfl (fun w => (bin_lss w).trans (by rw [hb68]))) fun a hA => ?_
   refine seq_do hA rfl rfl rfl (does_move rfl) fun a hA => ?_
   refine seq_skip hA rfl rfl rfl fun a hA => ?_
   refine seq_skip hA rfl rfl rfl fun a hA => ?_
   refine seq_skip hA rfl rfl rfl fun a hA => ?_
   refine seq_skip hA rfl rfl rfl fun a hA => ?_
   refine seq_skip hA rfl rfl rfl fun a hA => ?_
   refine seq_do (v := .bool true) hA rfl rfl rfl (does_pick rfl rfl rfl rfl) fun a hA => ?_
   refine seq_end ?_
   refine hK65 _ _ ?_
   refine wp_cond_true (hA.ev rfl) ?_
   refine wp_seq_k (fun K69 hK69 => ?_)
   refine wp_region_lit ?_
   refine seq_do hA rfl rfl rfl (does_assign rfl) fun a hA => ?_
   refine seq_do hA rfl rfl rfl (does_assign rfl) fun a hA => ?_
   refine seq_end ?_
   refine hK69 _ _ ?_
   refine wp_ret ?_
   refine hret _ _ ?_
   refine ends (v := .tuple #[.slice none 0 0, .int .i64 4]) hA rfl (.cons (res_tmp rfl) (.cons (res_tmp rfl) .nil)) rfl ?_
   exact .inl ⟨.inl hb68', rfl, hS.bel⟩
  ·
   have hb68' := of_decide_eq_false hb68
   refine seq_do (v := .bool false) hA rfl rfl rfl (does_bin rfl rfl (fun w => (bin_lss w).trans (by rw [hb68]))) fun a hA => ?_
   refine seq_do hA rfl rfl rfl (does_move rfl) fun a hA => ?_
   refine seq_do (v := .pointer (some ⟨g2, 0, none⟩)) hA rfl rfl rfl (does_field GvJ_fld_27_0 rfl rfl) fun a hA => ?_
   refine seq_do hA rfl rfl rfl (does_loadS hS GvJ_isS_25 rfl 4 rfl (cs := [.bool b, .slice a1 ((words x).length) ac1, .slice a2 1 ac2]) rfl rfl) fun a hA => ?_
   refine seq_do hA rfl rfl rfl (does_loadS hS GvJ_isS_25 rfl 0 rfl (cs := [.bool false, .slice ro15 ((words (2 ^ (8 * n))).length) rc16, .slice (some ⟨g20, 0, none⟩) 1 1]) rfl rfl) fun a hA => ?_
   refine seq_call hA rfl rfl rfl (enters_func  rfl rfl (fun w => by kernel_rfl)) (rorderW (b1 := b) (b2 := false) (b3 := true) (x := x) (y := 2 ^ (8 * n)) ⟨(hS.rd 11 rfl), ha.s1.nil, ha.s1.cap⟩ ⟨(hS.rd 10 rfl), ha.s2.nil, ha.s2.cap⟩ ⟨(hS.rd 6 rfl), ho17.nocap, ho17.caps⟩ ⟨(hS.rd 5 rfl), (fun h => by cases h), (Nat.le_refl _)⟩ rfl rfl hx hl8 (by rw [decide_eq_true (words_len_pos.2 (Nat.pos_iff_ne_zero.1 (Nat.two_pow_pos _)))]; rfl) rfl) ?_
   rintro _ w71 ⟨rfl, hb70⟩
   replace hS := hS.call hb70
   refine ⟨_, rfl, ?_⟩
   intro a hA
   rcases Bool.eq_false_or_eq_true (decide (0 ≤ oI (sgn b x + sgn true (2 ^ (8 * n))))) with hb72 | hb72
   ·
    have hb72' := of_decide_eq_true hb72
    refine seq_do (v := .bool true) hA rfl rfl rfl (does_bin rfl rfl (fun w => (bin_geq w).trans (by rw [hb72]))) fun a hA => ?_
    refine seq_do (v := .bool true) hA rfl rfl rfl (does_pick rfl rfl rfl rfl) fun a hA => ?_
    refine seq_end ?_
    refine hK65 _ _ ?_
    refine wp_cond_true (hA.ev rfl) ?_
    refine wp_seq_k (fun K73 hK73 => ?_)
    refine wp_region_lit ?_
    refine seq_do hA rfl rfl rfl (does_assign rfl) fun a hA => ?_
    refine seq_do hA rfl rfl rfl (does_assign rfl) fun a hA => ?_
    refine seq_end ?_
    refine hK73 _ _ ?_
    refine wp_ret ?_
    refine hret _ _ ?_
    refine ends (v := .tuple #[.slice none 0 0, .int .i64 4]) hA rfl (.cons (res_tmp rfl) (.cons (res_tmp rfl) .nil)) rfl ?_
    exact .inl ⟨.inr hb72', rfl, hS.bel⟩
   ·
    have hb72' := of_decide_eq_false hb72
    refine seq_do (v := .bool false) hA rfl rfl rfl (does_bin rfl rfl (fun w => (bin_geq w).trans (by rw [hb72]))) fun a hA => ?_
    refine seq_do (v := .bool false) hA rfl rfl rfl (does_pick rfl rfl rfl rfl) fun a hA => ?_
    refine seq_end ?_
    refine hK65 _ _ ?_
    refine wp_cond_false (hA.ev rfl) ?_
    refine wp_skip ?_
    refine hK64 _ _ ?_
    refine wp_seq_k (fun K74 hK74 => ?_)
    refine wp_region_lit ?_
    refine seq_do (v := .pointer (some ⟨g2, 0, none⟩)) hA rfl rfl rfl (does_field GvJ_fld_27_0 rfl rfl) fun a hA => ?_
    refine seq_do hA rfl rfl rfl (does_loadS hS GvJ_isS_25 rfl 4 rfl (cs := [.bool b, .slice a1 ((words x).length) ac1, .slice a2 1 ac2]) rfl rfl) fun a hA => ?_
    refine seq_new (vs := [.bool false, .slice none 0 0, .slice none 0 0]) (t := 25) hA hS rfl rfl rfl (fun g => .pointer (some ⟨g, 0, none⟩)) (does_alloc (z := .agg #[.bool false, .slice none 0 0, .slice none 0 0]) (by kernel_rfl) rfl) rfl ?_
    intro g75 w76 hS a hA
    refine seq_store (us := [.bool b, .slice a1 ((words x).length) ac1, .slice a2 1 ac2]) hA hS rfl rfl (sets_store rfl rfl rfl (by kernel_rfl) hS 0 rfl rfl rfl) 0 rfl rfl rfl rfl ?_
    intro w77 hS
    refine seq_end ?_
    refine hK74 _ _ ?_
    refine wp_seq_k (fun K78 hK78 => ?_)
    refine wp_seq_k (fun K79 hK79 => ?_)
    refine wp_region_lit ?_
    refine seq_do (v := .pointer (some ⟨g75, 0, none⟩)) hA rfl rfl rfl (does_field GvJ_fld_25_0 rfl rfl) fun a hA => ?_
    refine seq_do hA rfl rfl rfl (does_load1 hS GvJ_is1_4 rfl 0 rfl rfl) fun a hA => ?_
    refine seq_end ?_
    refine hK79 _ _ ?_
    refine wp_cond_split (t := b) (hA.ev rfl) (fun hc80 => ?_) (fun hc80 => ?_)
    ·
     exact (hb68' (oI_lt.2 (by rw [hc80]; have h9 := hbx; rw [hc80] at h9; have h8 : 1 ≤ x := h9; show -((x : Nat) : Int) + ((0 : Nat) : Int) < 0; omega))).elim
    ·
     refine wp_skip ?_
     refine hK78 _ _ ?_
     refine wp_seq_k (fun K81 hK81 => ?_)
     refine wp_region_lit ?_
     refine seq_do hA rfl rfl rfl (does_move rfl) fun a hA => ?_
     have hL0 : Sc w77 a1 ac1 (words x) := ⟨(hS.rd 11 rfl), ha.s1.nil, ha.s1.cap⟩
     have hW : Below w.heap.size w w77 := hS.bel
     have hF14 : Blk w77 g75 [.bool b, .slice a1 ((words x).length) ac1, .slice a2 1 ac2] := (hS.own (g75, [.bool b, .slice a1 ((words x).length) ac1, .slice a2 1 ac2]) (by simp)).2
     clear hS
     have hM : G.Mg w77 w77 [] := G.Mg.start w77
     refine G.s_makeN (z := .int .u8 0) (sz := 1) (by_ := 1) (m := n) (toG hA) hM Tryz.underlying22 (by kernel_rfl) rfl rfl rfl rfl rfl rfl (by omega) (by omega) (.inr (G.noBld_quiet G.quietL_nil)) ?_
     intro gx w82 hM hC a hA
     replace hA := ofG hA
     rw [lowI_made bg n x] at hM
     replace hL0 := G.sc_carry hL0 hC
     have hS : St w77 w82 [] [] [] := St.bare hM.bel
     refine seq_do hA rfl rfl rfl (does_assign rfl) fun a hA => ?_
     refine seq_end ?_
     refine hK81 _ _ ?_
     refine wp_seq_k (fun K83 hK83 => ?_)
     refine wp_region_lit ?_
     refine seq_do (v := .pointer (some ⟨g75, 1, none⟩)) hA rfl rfl rfl (does_field GvJ_fld_25_1 rfl rfl) fun a hA => ?_
     refine seq_do (v := .slice a1 ((words x).length) ac1) hA rfl rfl rfl (does_load1F hS hF14 GvJ_is1_23 rfl rfl) fun a hA => ?_
     refine seq_do hA rfl rfl rfl (does_assign rfl) fun a hA => ?_
     refine seq_end ?_
     refine hK83 _ _ ?_
     refine wp_seq_k (fun K84 hK84 => ?_)
     refine wp_seq_k (fun K85 hK85 => ?_)
     refine wp_region_lit ?_
     refine seq_do hA rfl rfl rfl (does_assign rfl) fun a hA => ?_
     refine seq_end ?_
     refine hK85 _ _ ?_
     refine wp_block ?_
     refine wp_loop_n (fun m a w1 => ∃ (k : Nat) (V : Nat) (lo : Option Addr) (lc : Nat), m = 1 + (n - k) ∧ (k ≤ n ∧ V = x / 256 ^ k ∧ Sc w1 lo lc (words V) ∧ G.Mg w77 w1 [.row G.BY 1 (.slice (some ⟨gx, 0, none⟩) n n) n (Lib.byteCells (G.lowB bg (G.lbI n x k)))]) ∧ Sl a 101 [(0, .int .i64 (((n : Nat) : Int))), (1, .bool bg), (8, .slice none 0 0), (9, .int .i64 0), (15, .slice (some ⟨gx, 0, none⟩) n n), (16, .slice lo ((words V).length) lc), (17, .int .i64 (((k : Nat) : Int)))] ∧ St w77 w1 [] [] []) _ ⟨0, x, a1, ac1, rfl, ⟨Nat.zero_le _, (by rw [Nat.pow_zero, Nat.div_one]), hL0, hM⟩, hA.keep _ ⟨rfl, rfl, rfl, rfl, rfl, rfl, rfl, trivial⟩, hS⟩ ?_
     clear hS hA
     rintro m a w86 ⟨k, V, lo, lc, rfl, hinv88, hA, hS⟩ K87 hK87
     obtain ⟨hk9, hV, hL, hM⟩ := hinv88
     have hVl : (words V).length ≤ 512 := Nat.le_trans (words_mono (by rw [hV]; exact Nat.div_le_self _ _)) hFl
     refine wp_seq_k (fun K89 hK89 => ?_)
     refine wp_seq_k (fun K90 hK90 => ?_)
     refine wp_region_lit ?_
     refine seq_do hA rfl rfl rfl (does_move rfl) fun a hA => ?_
     refine seq_do hA rfl rfl rfl (does_move rfl) fun a hA => ?_
     rcases Bool.eq_false_or_eq_true (decide (((k : Nat) : Int) < ((n : Nat) : Int))) with hb91 | hb91
     ·
      have hb91' := of_decide_eq_true hb91
      refine seq_do (v := .bool true) hA rfl rfl rfl (does_bin rfl rfl (fun w => (bin_lss w).trans (by rw [hb91]))) fun a hA => ?_
      refine seq_end ?_
      refine hK90 _ _ ?_
      refine wp_cond_true (hA.ev rfl) ?_
      refine wp_skip ?_
      refine hK89 _ _ ?_
      refine wp_seq_k (fun K92 hK92 => ?_)
      refine wp_block ?_
      refine wp_seq_k (fun K93 hK93 => ?_)
      refine wp_region_lit ?_
      refine seq_do hA rfl rfl rfl (does_move rfl) fun a hA => ?_
      refine seq_newB (us := [256]) (t := 57) (m := 1) hA hS rfl rfl rfl (does_buildSlice rfl (by kernel_rfl)) (by simp [Dig]) ?_
      intro g94 w95 hS hB96 a hA
      replace hM := hM.call hB96
      replace hL : Sc w95 lo lc (words V) := G.sc_carry hL (fun _ _ r => r.below hB96)
      refine seq_call hA rfl rfl rfl (enters_func  rfl rfl (fun w => by kernel_rfl)) (rover256 (x := V) _ _ (hL.rd.below (Below.refl _ _)) (hS.rd 0 rfl) hVl) ?_
      rintro _ w104 ⟨qo97, qc98, ro99, rc100, rfl, hq101, hr102, hb103⟩
      replace hS := hS.call hb103
      replace hS := hS.addR hq101.rd
      replace hS := hS.addR hr102.rd
      refine ⟨_, rfl, ?_⟩
      intro a hA
      replace hM := hM.call hb103
      refine seq_do hA rfl rfl rfl (does_move rfl) fun a hA => ?_
      refine seq_do (v := .slice qo97 ((words (V / 256)).length) qc98) hA rfl rfl rfl (does_extract (vs := [.slice qo97 ((words (V / 256)).length) qc98, .slice ro99 ((words (V % 256)).length) rc100]) rfl rfl) fun a hA => ?_
      refine seq_do (v := .slice ro99 ((words (V % 256)).length) rc100) hA rfl rfl rfl (does_extract (vs := [.slice qo97 ((words (V / 256)).length) qc98, .slice ro99 ((words (V % 256)).length) rc100]) rfl rfl) fun a hA => ?_
      refine seq_do hA rfl rfl rfl (does_assign rfl) fun a hA => ?_
      refine seq_do hA rfl rfl rfl (does_assign rfl) fun a hA => ?_
      refine seq_end ?_
      refine hK93 _ _ ?_
      refine wp_seq_k (fun K105 hK105 => ?_)
      refine wp_region_lit ?_
      refine seq_do hA rfl rfl rfl (does_assign rfl) fun a hA => ?_
      refine seq_end ?_
      refine hK105 _ _ ?_
      refine wp_seq_k (fun K106 hK106 => ?_)
      refine wp_seq_k (fun K107 hK107 => ?_)
      refine wp_region_lit ?_
      refine seq_do hA rfl rfl rfl (does_move rfl) fun a hA => ?_
      refine seq_do (v := .int .i64 ((((words (V % 256)).length : Nat) : Int))) hA rfl rfl rfl (does_len Tryz.underlying23 rfl) fun a hA => ?_
      rcases Bool.eq_false_or_eq_true (decide (0 < (((words (V % 256)).length : Nat) : Int))) with hb108 | hb108
      ·
       have hb108' := of_decide_eq_true hb108
       refine seq_do (v := .bool true) hA rfl rfl rfl (does_bin rfl rfl (fun w => (bin_gtr w).trans (by rw [hb108]))) fun a hA => ?_
       refine seq_end ?_
       refine hK107 _ _ ?_
       refine wp_cond_true (hA.ev rfl) ?_
       refine wp_region_lit ?_
       refine seq_do hA rfl rfl rfl (does_move rfl) fun a hA => ?_
       have hi112 : 0 < (words (V % 256)).length := by first | omega | (simp only [List.length_set]; omega)
       obtain ⟨b109, f110, hso111⟩ := Rd.addr (hS.rd 0 rfl) hi112
       refine seq_do (v := .pointer (some ⟨b109, f110 + 0, none⟩)) hA rfl rfl rfl (does_indexRow (k := 0) Tryz.underlying23 (by kernel_rfl) rfl rfl (by omega) hso111 hi112) fun a hA => ?_
       refine seq_do (v := .int .u32 ((((words (V % 256)).getD 0 0 : Nat) : Int))) hA rfl rfl rfl (does_loadRow (hS.rd 0 rfl) hso111 hi112 GvJ_is1_57 rfl) fun a hA => ?_
       refine seq_do (v := .int .u8 (((V % 256 : Nat) : Int))) hA rfl rfl rfl (does_convert rfl (ar_conv Tryz.underlying57 Tryz.underlying5 (conv0 V))) fun a hA => ?_
       refine seq_do hA rfl rfl rfl (does_assign rfl) fun a hA => ?_
       refine seq_end ?_
       refine hK106 _ _ ?_
       refine wp_seq_k (fun K113 hK113 => ?_)
       refine wp_seq_k (fun K114 hK114 => ?_)
       refine wp_region_lit ?_
       refine seq_do hA rfl rfl rfl (does_move rfl) fun a hA => ?_
       refine seq_end ?_
       refine hK114 _ _ ?_
       refine wp_cond_split (t := bg) (hA.ev rfl) (fun hc115 => ?_) (fun hc115 => ?_)
       ·
        refine wp_region_lit ?_
        refine seq_do hA rfl rfl rfl (does_move rfl) fun a hA => ?_
        refine seq_do hA rfl rfl rfl (does_move rfl) fun a hA => ?_
        refine seq_do (v := .int .i64 (((n - 1 : Nat) : Int))) hA rfl rfl rfl (does_bin rfl rfl (fun w => (bin_sub (i64In (by omega) (by omega)) w).trans (by rw [show (((n : Nat) : Int) - 1 : Int) = ((n - 1 : Nat) : Int) from by omega]))) fun a hA => ?_
        refine seq_do hA rfl rfl rfl (does_move rfl) fun a hA => ?_
        refine seq_do (v := .int .i64 ((((n - 1) - k : Nat) : Int))) hA rfl rfl rfl (does_bin rfl rfl (fun w => (bin_sub (i64In (by omega) (by omega)) w).trans (by rw [show (((n - 1 : Nat) : Int) - ((k : Nat) : Int) : Int) = (((n - 1) - k : Nat) : Int) from by omega]))) fun a hA => ?_
        refine seq_do hA rfl rfl rfl (does_move rfl) fun a hA => ?_
        refine seq_do (v := .pointer (some ⟨gx, ((n - 1) - k) * 1, none⟩)) hA rfl rfl rfl (does_ixZ (k := (n - 1) - k) Tryz.underlying22 (by kernel_rfl) rfl rfl rfl (by omega)) fun a hA => ?_
        have hq9 : Sc w104 qo97 qc98 (words (V / 256)) := ⟨(hS.rd 1 rfl), hq101.nocap, hq101.caps⟩
        refine G.s_storeEN (c := .int .u8 (((V % 256 : Nat) : Int))) (q := ((n - 1) - k) * 1) (toG hA) hM rfl rfl (G.m_storeE rfl rfl rfl (by kernel_rfl) hM 0 rfl (show ((n - 1) - k) * 1 + 1 ≤ n * 1 by omega) rfl) 0 rfl (G.cells_get (l := G.lowB bg (G.lbI n x k)) (i := (n - 1) - k) (by rw [G.low_len, G.lbI_len]; omega)) rfl rfl ?_
        intro w116 hM hC9
        replace hq9 := G.sc_carry hq9 hC9
        replace hM : G.Mg w77 w116 [.row G.BY 1 (.slice (some ⟨gx, 0, none⟩) n n) n (Lib.byteCells (G.lowB bg (G.lbI n x (k + 1))))] := by
         have h9 := lowI_step (bg := bg) (n := n) (F := x) (k := k) (V := V) (i := (n - 1) - k) (c := ((V % 256 : Nat) : Int)) (by omega) hV (by rw [hc115]; rfl) rfl
         rw [← h9]
         exact hM
        replace hS : St w77 w116 [] [] [] := St.bare hM.bel
        refine seq_end ?_
        refine hK113 _ _ ?_
        refine wp_region_lit ?_
        refine seq_do hA rfl rfl rfl (does_move rfl) fun a hA => ?_
        refine seq_do hA rfl rfl rfl (does_assign rfl) fun a hA => ?_
        refine seq_end ?_
        refine hK92 _ _ ?_
        refine wp_region_lit ?_
        refine seq_do hA rfl rfl rfl (does_move rfl) fun a hA => ?_
        refine seq_do (v := .int .i64 (((k + 1 : Nat) : Int))) hA rfl rfl rfl (does_bin rfl rfl (fun w => (bin_add (i64In (by omega) (by omega)) w).trans (by rw [show (((k : Nat) : Int) + 1 : Int) = ((k + 1 : Nat) : Int) from by omega]))) fun a hA => ?_
        refine seq_do hA rfl rfl rfl (does_assign rfl) fun a hA => ?_
        refine seq_end ?_
        refine hK87 _ _ _ (by omega) ⟨k + 1, V / 256, qo97, qc98, rfl, ⟨by omega, (by rw [hV, Nat.div_div_eq_div_mul, ← Nat.pow_succ]), hq9, hM⟩, hA.keep _ ⟨rfl, rfl, rfl, rfl, rfl, rfl, rfl, trivial⟩, hS⟩
       ·
        refine wp_region_lit ?_
        refine seq_do hA rfl rfl rfl (does_move rfl) fun a hA => ?_
        refine seq_do hA rfl rfl rfl (does_move rfl) fun a hA => ?_
        refine seq_do hA rfl rfl rfl (does_move rfl) fun a hA => ?_
        refine seq_do (v := .pointer (some ⟨gx, (k) * 1, none⟩)) hA rfl rfl rfl (does_ixZ (k := k) Tryz.underlying22 (by kernel_rfl) rfl rfl rfl (by omega)) fun a hA => ?_
        have hq9 : Sc w104 qo97 qc98 (words (V / 256)) := ⟨(hS.rd 1 rfl), hq101.nocap, hq101.caps⟩
        refine G.s_storeEN (c := .int .u8 (((V % 256 : Nat) : Int))) (q := (k) * 1) (toG hA) hM rfl rfl (G.m_storeE rfl rfl rfl (by kernel_rfl) hM 0 rfl (show (k) * 1 + 1 ≤ n * 1 by omega) rfl) 0 rfl (G.cells_get (l := G.lowB bg (G.lbI n x k)) (i := k) (by rw [G.low_len, G.lbI_len]; omega)) rfl rfl ?_
        intro w117 hM hC9
        replace hq9 := G.sc_carry hq9 hC9
        replace hM : G.Mg w77 w117 [.row G.BY 1 (.slice (some ⟨gx, 0, none⟩) n n) n (Lib.byteCells (G.lowB bg (G.lbI n x (k + 1))))] := by
         have h9 := lowI_step (bg := bg) (n := n) (F := x) (k := k) (V := V) (i := k) (c := ((V % 256 : Nat) : Int)) (by omega) hV (by rw [hc115]; rfl) rfl
         rw [← h9]
         exact hM
        replace hS : St w77 w117 [] [] [] := St.bare hM.bel
        refine seq_end ?_
        refine hK113 _ _ ?_
        refine wp_region_lit ?_
        refine seq_do hA rfl rfl rfl (does_move rfl) fun a hA => ?_
        refine seq_do hA rfl rfl rfl (does_assign rfl) fun a hA => ?_
        refine seq_end ?_
        refine hK92 _ _ ?_
        refine wp_region_lit ?_
        refine seq_do hA rfl rfl rfl (does_move rfl) fun a hA => ?_
        refine seq_do (v := .int .i64 (((k + 1 : Nat) : Int))) hA rfl rfl rfl (does_bin rfl rfl (fun w => (bin_add (i64In (by omega) (by omega)) w).trans (by rw [show (((k : Nat) : Int) + 1 : Int) = ((k + 1 : Nat) : Int) from by omega]))) fun a hA => ?_
        refine seq_do hA rfl rfl rfl (does_assign rfl) fun a hA => ?_
        refine seq_end ?_
        refine hK87 _ _ _ (by omega) ⟨k + 1, V / 256, qo97, qc98, rfl, ⟨by omega, (by rw [hV, Nat.div_div_eq_div_mul, ← Nat.pow_succ]), hq9, hM⟩, hA.keep _ ⟨rfl, rfl, rfl, rfl, rfl, rfl, rfl, trivial⟩, hS⟩
      ·
       have hb108' := of_decide_eq_false hb108
       refine seq_do (v := .bool false) hA rfl rfl rfl (does_bin rfl rfl (fun w => (bin_gtr w).trans (by rw [hb108]))) fun a hA => ?_
       refine seq_end ?_
       refine hK107 _ _ ?_
       refine wp_cond_false (hA.ev rfl) ?_
       refine wp_skip ?_
       refine hK106 _ _ ?_
       refine wp_seq_k (fun K118 hK118 => ?_)
       refine wp_seq_k (fun K119 hK119 => ?_)
       refine wp_region_lit ?_
       refine seq_do hA rfl rfl rfl (does_move rfl) fun a hA => ?_
       refine seq_end ?_
       refine hK119 _ _ ?_
       refine wp_cond_split (t := bg) (hA.ev rfl) (fun hc120 => ?_) (fun hc120 => ?_)
       ·
        refine wp_region_lit ?_
        refine seq_do hA rfl rfl rfl (does_move rfl) fun a hA => ?_
        refine seq_do hA rfl rfl rfl (does_move rfl) fun a hA => ?_
        refine seq_do (v := .int .i64 (((n - 1 : Nat) : Int))) hA rfl rfl rfl (does_bin rfl rfl (fun w => (bin_sub (i64In (by omega) (by omega)) w).trans (by rw [show (((n : Nat) : Int) - 1 : Int) = ((n - 1 : Nat) : Int) from by omega]))) fun a hA => ?_
        refine seq_do hA rfl rfl rfl (does_move rfl) fun a hA => ?_
        refine seq_do (v := .int .i64 ((((n - 1) - k : Nat) : Int))) hA rfl rfl rfl (does_bin rfl rfl (fun w => (bin_sub (i64In (by omega) (by omega)) w).trans (by rw [show (((n - 1 : Nat) : Int) - ((k : Nat) : Int) : Int) = (((n - 1) - k : Nat) : Int) from by omega]))) fun a hA => ?_
        refine seq_do hA rfl rfl rfl (does_move rfl) fun a hA => ?_
        refine seq_do (v := .pointer (some ⟨gx, ((n - 1) - k) * 1, none⟩)) hA rfl rfl rfl (does_ixZ (k := (n - 1) - k) Tryz.underlying22 (by kernel_rfl) rfl rfl rfl (by omega)) fun a hA => ?_
        have hz0 : V % 256 = 0 := by
         apply Classical.byContradiction
         intro k9
         have := words_len_pos.2 k9
         omega
        have hq9 : Sc w104 qo97 qc98 (words (V / 256)) := ⟨(hS.rd 1 rfl), hq101.nocap, hq101.caps⟩
        refine G.s_storeEN (c := .int .u8 0) (q := ((n - 1) - k) * 1) (toG hA) hM rfl rfl (G.m_storeE rfl rfl rfl (by kernel_rfl) hM 0 rfl (show ((n - 1) - k) * 1 + 1 ≤ n * 1 by omega) rfl) 0 rfl (G.cells_get (l := G.lowB bg (G.lbI n x k)) (i := (n - 1) - k) (by rw [G.low_len, G.lbI_len]; omega)) rfl rfl ?_
        intro w121 hM hC9
        replace hq9 := G.sc_carry hq9 hC9
        replace hM : G.Mg w77 w121 [.row G.BY 1 (.slice (some ⟨gx, 0, none⟩) n n) n (Lib.byteCells (G.lowB bg (G.lbI n x (k + 1))))] := by
         have h9 := lowI_step (bg := bg) (n := n) (F := x) (k := k) (V := V) (i := (n - 1) - k) (c := 0) (by omega) hV (by rw [hc120]; rfl) (by rw [hz0]; rfl)
         rw [← h9]
         exact hM
        replace hS : St w77 w121 [] [] [] := St.bare hM.bel
        refine seq_end ?_
        refine hK118 _ _ ?_
        refine wp_region_lit ?_
        refine seq_do hA rfl rfl rfl (does_move rfl) fun a hA => ?_
        refine seq_do hA rfl rfl rfl (does_assign rfl) fun a hA => ?_
        refine seq_end ?_
        refine hK92 _ _ ?_
        refine wp_region_lit ?_
        refine seq_do hA rfl rfl rfl (does_move rfl) fun a hA => ?_
        refine seq_do (v := .int .i64 (((k + 1 : Nat) : Int))) hA rfl rfl rfl (does_bin rfl rfl (fun w => (bin_add (i64In (by omega) (by omega)) w).trans (by rw [show (((k : Nat) : Int) + 1 : Int) = ((k + 1 : Nat) : Int) from by omega]))) fun a hA => ?_
        refine seq_do hA rfl rfl rfl (does_assign rfl) fun a hA => ?_
        refine seq_end ?_
        refine hK87 _ _ _ (by omega) ⟨k + 1, V / 256, qo97, qc98, rfl, ⟨by omega, (by rw [hV, Nat.div_div_eq_div_mul, ← Nat.pow_succ]), hq9, hM⟩, hA.keep _ ⟨rfl, rfl, rfl, rfl, rfl, rfl, rfl, trivial⟩, hS⟩
       ·
        refine wp_region_lit ?_
        refine seq_do hA rfl rfl rfl (does_move rfl) fun a hA => ?_
        refine seq_do hA rfl rfl rfl (does_move rfl) fun a hA => ?_
        refine seq_do hA rfl rfl rfl (does_move rfl) fun a hA => ?_
        refine seq_do (v := .pointer (some ⟨gx, (k) * 1, none⟩)) hA rfl rfl rfl (does_ixZ (k := k) Tryz.underlying22 (by kernel_rfl) rfl rfl rfl (by omega)) fun a hA => ?_
        have hz0 : V % 256 = 0 := by
         apply Classical.byContradiction
         intro k9
         have := words_len_pos.2 k9
         omega
        have hq9 : Sc w104 qo97 qc98 (words (V / 256)) := ⟨(hS.rd 1 rfl), hq101.nocap, hq101.caps⟩
        refine G.s_storeEN (c := .int .u8 0) (q := (k) * 1) (toG hA) hM rfl rfl (G.m_storeE rfl rfl rfl (by kernel_rfl) hM 0 rfl (show (k) * 1 + 1 ≤ n * 1 by omega) rfl) 0 rfl (G.cells_get (l := G.lowB bg (G.lbI n x k)) (i := k) (by rw [G.low_len, G.lbI_len]; omega)) rfl rfl ?_
        intro w122 hM hC9
        replace hq9 := G.sc_carry hq9 hC9
        replace hM : G.Mg w77 w122 [.row G.BY 1 (.slice (some ⟨gx, 0, none⟩) n n) n (Lib.byteCells (G.lowB bg (G.lbI n x (k + 1))))] := by
         have h9 := lowI_step (bg := bg) (n := n) (F := x) (k := k) (V := V) (i := k) (c := 0) (by omega) hV (by rw [hc120]; rfl) (by rw [hz0]; rfl)
         rw [← h9]
         exact hM
        replace hS : St w77 w122 [] [] [] := St.bare hM.bel
        refine seq_end ?_
        refine hK118 _ _ ?_
        refine wp_region_lit ?_
        refine seq_do hA rfl rfl rfl (does_move rfl) fun a hA => ?_
        refine seq_do hA rfl rfl rfl (does_assign rfl) fun a hA => ?_
        refine seq_end ?_
        refine hK92 _ _ ?_
        refine wp_region_lit ?_
        refine seq_do hA rfl rfl rfl (does_move rfl) fun a hA => ?_
        refine seq_do (v := .int .i64 (((k + 1 : Nat) : Int))) hA rfl rfl rfl (does_bin rfl rfl (fun w => (bin_add (i64In (by omega) (by omega)) w).trans (by rw [show (((k : Nat) : Int) + 1 : Int) = ((k + 1 : Nat) : Int) from by omega]))) fun a hA => ?_
        refine seq_do hA rfl rfl rfl (does_assign rfl) fun a hA => ?_
        refine seq_end ?_
        refine hK87 _ _ _ (by omega) ⟨k + 1, V / 256, qo97, qc98, rfl, ⟨by omega, (by rw [hV, Nat.div_div_eq_div_mul, ← Nat.pow_succ]), hq9, hM⟩, hA.keep _ ⟨rfl, rfl, rfl, rfl, rfl, rfl, rfl, trivial⟩, hS⟩
     ·
      have hb91' := of_decide_eq_false hb91
      refine seq_do (v := .bool false) hA rfl rfl rfl (does_bin rfl rfl (fun w => (bin_lss w).trans (by rw [hb91]))) fun a hA => ?_
      refine seq_end ?_
      refine hK90 _ _ ?_
      refine wp_cond_false (hA.ev rfl) ?_
      refine wp_exit ?_
      refine hK84 _ _ ?_
      refine wp_seq_k (fun K123 hK123 => ?_)
      refine wp_region_lit ?_
      refine seq_do hA rfl rfl rfl (does_move rfl) fun a hA => ?_
      refine seq_do hA rfl rfl rfl (does_assign rfl) fun a hA => ?_
      refine seq_do hA rfl rfl rfl (does_assign rfl) fun a hA => ?_
      refine seq_end ?_
      refine hK123 _ _ ?_
      refine wp_ret ?_
      refine hret _ _ ?_
      refine ends (v := .tuple #[.slice (some ⟨gx, 0, none⟩) n n, .int .i64 0]) hA rfl (.cons (res_tmp rfl) (.cons (res_tmp rfl) .nil)) rfl ?_
      rw [show k = n from by omega, lbI_done'] at hM
      exact .inr ⟨⟨hb68', hb72'⟩, gx, rfl, G.Mg.low hW hM (G.noBld_cons (by simp) (G.noBld_quiet G.quietL_nil))⟩
 refine wp_draw (S := fun w1 => St w w1 [(g35, [.bool false, .slice ro28 ((words (2 ^ (8 * n - 1))).length) rc29, .slice (some ⟨g33, 0, none⟩) 1 1]), (g22, [.bool false, .slice ro15 ((words (2 ^ (8 * n))).length) rc16, .slice (some ⟨g20, 0, none⟩) 1 1]), (g2, [.bool b, .slice a1 ((words x).length) ac1, .slice a2 1 ac2, .bool false, .slice a3 0 ac3, .slice a4 1 ac4])] [(some ⟨g33, 0, none⟩, [1]), (ro28, words (2 ^ (8 * n - 1))), (some ⟨g26, 0, none⟩, [1]), (some ⟨g20, 0, none⟩, [1]), (ro15, words (2 ^ (8 * n))), (some ⟨g13, 0, none⟩, [1]), (a4, [1]), (a3, []), (a2, [1]), (a1, words x)] []) (by kernel_rfl) ?_
 replace hS := hS.drew
 refine any_tk hA 1 rfl rfl rfl rfl hP hS (fun w1 hS => does_loadS hS GvJ_isS_25 rfl 1 rfl (cs := [.bool false, .slice ro15 ((words (2 ^ (8 * n))).length) rc16, .slice (some ⟨g20, 0, none⟩) 1 1]) rfl rfl) fun a hA => ?_
 refine any_many (rs := [0, 2, 3]) (by kernel_rfl) (by simp) ⟨?_, ?_, ?_, trivial⟩
 ·
  refine op_call hA 0 rfl rfl rfl rfl (enters_func  rfl rfl (fun w => by kernel_rfl)) (rzero_any _) ?_
  rintro _ w128 ⟨f124_1, f124_c1, f124_2, f124_c2, rfl, hs125, hs126, hb127⟩
  replace hS := hS.call hb127
  replace hS := hS.addR hs125.rd
  replace hS := hS.addR hs126.rd
  refine ⟨_, rfl, (hS.partD (.refl _) 2 rfl (.refl _)), ?_⟩
  intro a hA
  refine any_many (rs := [2, 3]) (by kernel_rfl) (by simp) ⟨?_, ?_, trivial⟩
  ·
   refine op_new (vs := [.bool false, .slice none 0 0, .slice none 0 0]) (t := 25) hA hS 2 rfl rfl rfl rfl (fun g => .pointer (some ⟨g, 0, none⟩)) (does_alloc (z := .agg #[.bool false, .slice none 0 0, .slice none 0 0]) (by kernel_rfl) rfl) rfl ?_
   intro g129 w130 hS
   refine ⟨(hS.partD (.cons _ (.cons_cons _ (.cons_cons _ (.cons_cons _ .slnil)))) 2 rfl (.refl _)), ?_⟩
   intro a hA
   refine any_one (by kernel_rfl) (op_new (vs := [.bool false, .slice none 0 0, .slice none 0 0]) (t := 25) hA hS 3 rfl rfl rfl rfl (fun g => .pointer (some ⟨g, 0, none⟩)) (does_alloc (z := .agg #[.bool false, .slice none 0 0, .slice none 0 0]) (by kernel_rfl) rfl) rfl ?_)
   intro g131 w132 hS
   refine ⟨(hS.partD (.cons _ (.cons _ (.cons_cons _ (.cons_cons _ (.cons_cons _ .slnil))))) 2 rfl (.refl _)), ?_⟩
   intro a hA
   refine any_one (by kernel_rfl) (op_store (us := [.bool false, .slice f124_1 0 f124_c1, .slice f124_2 1 f124_c2]) hA hS 4 rfl rfl rfl (sets_store rfl rfl rfl (by kernel_rfl) hS 1 rfl rfl rfl) 1 rfl rfl rfl rfl ?_)
   intro w133 hS
   refine ⟨(hS.partD (.cons _ (.cons _ (.cons_cons _ (.cons_cons _ (.cons_cons _ .slnil))))) 2 rfl (.refl _)), ?_⟩
   refine any_one (by kernel_rfl) (op_store (us := [.bool false, .slice ro15 ((words (2 ^ (8 * n))).length) rc16, .slice (some ⟨g20, 0, none⟩) 1 1]) hA hS 5 rfl rfl rfl (sets_store rfl rfl rfl (by kernel_rfl) hS 0 rfl rfl rfl) 0 rfl rfl rfl rfl ?_)
   intro w134 hS
   refine ⟨(hS.partD (.cons _ (.cons _ (.cons_cons _ (.cons_cons _ (.cons_cons _ .slnil))))) 2 rfl (.refl _)), ?_⟩
   refine any_end (by kernel_rfl) ?_
   refine hJ60 _ _ ⟨g129, g131, f124_1, f124_c1, f124_2, f124_c2, hA.keep _ ⟨rfl, rfl, rfl, rfl, rfl, rfl, rfl, rfl, rfl, rfl, rfl, rfl, rfl, rfl, rfl, rfl, rfl, rfl, rfl, rfl, rfl, rfl, rfl, rfl, rfl, rfl, rfl, rfl, rfl, rfl, trivial⟩, (St.pickRL hS ⟨⟨0, rfl⟩, ⟨⟨1, rfl⟩, ⟨⟨2, rfl⟩, ⟨⟨3, rfl⟩, ⟨⟨4, rfl⟩, ⟨⟨5, rfl⟩, ⟨⟨6, rfl⟩, ⟨⟨7, rfl⟩, ⟨⟨8, rfl⟩, ⟨⟨9, rfl⟩, ⟨⟨10, rfl⟩, ⟨⟨11, rfl⟩, trivial⟩⟩⟩⟩⟩⟩⟩⟩⟩⟩⟩⟩ [0, 1, 2, 3, 4] rfl (by decide)), hs126.nil, hs126.cap, hs125.nil, hs125.cap⟩
  ·
   refine op_new (vs := [.bool false, .slice none 0 0, .slice none 0 0]) (t := 25) hA hS 3 rfl rfl rfl rfl (fun g => .pointer (some ⟨g, 0, none⟩)) (does_alloc (z := .agg #[.bool false, .slice none 0 0, .slice none 0 0]) (by kernel_rfl) rfl) rfl ?_
   intro g135 w136 hS
   refine ⟨(hS.partD (.cons _ (.cons_cons _ (.cons_cons _ (.cons_cons _ .slnil)))) 2 rfl (.refl _)), ?_⟩
   intro a hA
   refine any_one (by kernel_rfl) (op_new (vs := [.bool false, .slice none 0 0, .slice none 0 0]) (t := 25) hA hS 2 rfl rfl rfl rfl (fun g => .pointer (some ⟨g, 0, none⟩)) (does_alloc (z := .agg #[.bool false, .slice none 0 0, .slice none 0 0]) (by kernel_rfl) rfl) rfl ?_)
   intro g137 w138 hS
   refine ⟨(hS.partD (.cons _ (.cons _ (.cons_cons _ (.cons_cons _ (.cons_cons _ .slnil))))) 2 rfl (.refl _)), ?_⟩
   intro a hA
   refine any_one (by kernel_rfl) (op_store (us := [.bool false, .slice f124_1 0 f124_c1, .slice f124_2 1 f124_c2]) hA hS 4 rfl rfl rfl (sets_store rfl rfl rfl (by kernel_rfl) hS 0 rfl rfl rfl) 0 rfl rfl rfl rfl ?_)
   intro w139 hS
   refine ⟨(hS.partD (.cons _ (.cons _ (.cons_cons _ (.cons_cons _ (.cons_cons _ .slnil))))) 2 rfl (.refl _)), ?_⟩
   refine any_one (by kernel_rfl) (op_store (us := [.bool false, .slice ro15 ((words (2 ^ (8 * n))).length) rc16, .slice (some ⟨g20, 0, none⟩) 1 1]) hA hS 5 rfl rfl rfl (sets_store rfl rfl rfl (by kernel_rfl) hS 1 rfl rfl rfl) 1 rfl rfl rfl rfl ?_)
   intro w140 hS
   refine ⟨(hS.partD (.cons _ (.cons _ (.cons_cons _ (.cons_cons _ (.cons_cons _ .slnil))))) 2 rfl (.refl _)), ?_⟩
   refine any_end (by kernel_rfl) ?_
   refine hJ60 _ _ ⟨g137, g135, f124_1, f124_c1, f124_2, f124_c2, hA.keep _ ⟨rfl, rfl, rfl, rfl, rfl, rfl, rfl, rfl, rfl, rfl, rfl, rfl, rfl, rfl, rfl, rfl, rfl, rfl, rfl, rfl, rfl, rfl, rfl, rfl, rfl, rfl, rfl, rfl, rfl, rfl, trivial⟩, (St.pickRL hS ⟨⟨0, rfl⟩, ⟨⟨1, rfl⟩, ⟨⟨2, rfl⟩, ⟨⟨3, rfl⟩, ⟨⟨4, rfl⟩, ⟨⟨5, rfl⟩, ⟨⟨6, rfl⟩, ⟨⟨7, rfl⟩, ⟨⟨8, rfl⟩, ⟨⟨9, rfl⟩, ⟨⟨10, rfl⟩, ⟨⟨11, rfl⟩, trivial⟩⟩⟩⟩⟩⟩⟩⟩⟩⟩⟩⟩ [1, 0, 2, 3, 4] rfl (by decide)), hs126.nil, hs126.cap, hs125.nil, hs125.cap⟩
 ·
  refine op_new (vs := [.bool false, .slice none 0 0, .slice none 0 0]) (t := 25) hA hS 2 rfl rfl rfl rfl (fun g => .pointer (some ⟨g, 0, none⟩)) (does_alloc (z := .agg #[.bool false, .slice none 0 0, .slice none 0 0]) (by kernel_rfl) rfl) rfl ?_
  intro g141 w142 hS
  refine ⟨(hS.partD (.cons _ (.cons_cons _ (.cons_cons _ (.cons_cons _ .slnil)))) 0 rfl (.refl _)), ?_⟩
  intro a hA
  refine any_many (rs := [0, 3]) (by kernel_rfl) (by simp) ⟨?_, ?_, trivial⟩
  ·
   refine op_call hA 0 rfl rfl rfl rfl (enters_func  rfl rfl (fun w => by kernel_rfl)) (rzero_any _) ?_
   rintro _ w147 ⟨f143_1, f143_c1, f143_2, f143_c2, rfl, hs144, hs145, hb146⟩
   replace hS := hS.call hb146
   replace hS := hS.addR hs144.rd
   replace hS := hS.addR hs145.rd
   refine ⟨_, rfl, (hS.partD (.cons _ (.cons_cons _ (.cons_cons _ (.cons_cons _ .slnil)))) 2 rfl (.refl _)), ?_⟩
   intro a hA
   refine any_one (by kernel_rfl) (op_new (vs := [.bool false, .slice none 0 0, .slice none 0 0]) (t := 25) hA hS 3 rfl rfl rfl rfl (fun g => .pointer (some ⟨g, 0, none⟩)) (does_alloc (z := .agg #[.bool false, .slice none 0 0, .slice none 0 0]) (by kernel_rfl) rfl) rfl ?_)
   intro g148 w149 hS
   refine ⟨(hS.partD (.cons _ (.cons _ (.cons_cons _ (.cons_cons _ (.cons_cons _ .slnil))))) 2 rfl (.refl _)), ?_⟩
   intro a hA
   refine any_one (by kernel_rfl) (op_store (us := [.bool false, .slice f143_1 0 f143_c1, .slice f143_2 1 f143_c2]) hA hS 4 rfl rfl rfl (sets_store rfl rfl rfl (by kernel_rfl) hS 1 rfl rfl rfl) 1 rfl rfl rfl rfl ?_)
   intro w150 hS
   refine ⟨(hS.partD (.cons _ (.cons _ (.cons_cons _ (.cons_cons _ (.cons_cons _ .slnil))))) 2 rfl (.refl _)), ?_⟩
   refine any_one (by kernel_rfl) (op_store (us := [.bool false, .slice ro15 ((words (2 ^ (8 * n))).length) rc16, .slice (some ⟨g20, 0, none⟩) 1 1]) hA hS 5 rfl rfl rfl (sets_store rfl rfl rfl (by kernel_rfl) hS 0 rfl rfl rfl) 0 rfl rfl rfl rfl ?_)
   intro w151 hS
   refine ⟨(hS.partD (.cons _ (.cons _ (.cons_cons _ (.cons_cons _ (.cons_cons _ .slnil))))) 2 rfl (.refl _)), ?_⟩
   refine any_end (by kernel_rfl) ?_
   refine hJ60 _ _ ⟨g141, g148, f143_1, f143_c1, f143_2, f143_c2, hA.keep _ ⟨rfl, rfl, rfl, rfl, rfl, rfl, rfl, rfl, rfl, rfl, rfl, rfl, rfl, rfl, rfl, rfl, rfl, rfl, rfl, rfl, rfl, rfl, rfl, rfl, rfl, rfl, rfl, rfl, rfl, rfl, trivial⟩, (St.pickRL hS ⟨⟨0, rfl⟩, ⟨⟨1, rfl⟩, ⟨⟨2, rfl⟩, ⟨⟨3, rfl⟩, ⟨⟨4, rfl⟩, ⟨⟨5, rfl⟩, ⟨⟨6, rfl⟩, ⟨⟨7, rfl⟩, ⟨⟨8, rfl⟩, ⟨⟨9, rfl⟩, ⟨⟨10, rfl⟩, ⟨⟨11, rfl⟩, trivial⟩⟩⟩⟩⟩⟩⟩⟩⟩⟩⟩⟩ [0, 1, 2, 3, 4] rfl (by decide)), hs145.nil, hs145.cap, hs144.nil, hs144.cap⟩
  ·
   refine op_new (vs := [.bool false, .slice none 0 0, .slice none 0 0]) (t := 25) hA hS 3 rfl rfl rfl rfl (fun g => .pointer (some ⟨g, 0, none⟩)) (does_alloc (z := .agg #[.bool false, .slice none 0 0, .slice none 0 0]) (by kernel_rfl) rfl) rfl ?_
   intro g152 w153 hS
   refine ⟨(hS.partD (.cons _ (.cons _ (.cons_cons _ (.cons_cons _ (.cons_cons _ .slnil))))) 0 rfl (.refl _)), ?_⟩
   intro a hA
   refine any_one (by kernel_rfl) (op_call hA 0 rfl rfl rfl rfl (enters_func  rfl rfl (fun w => by kernel_rfl)) (rzero_any _) ?_)
   rintro _ w158 ⟨f154_1, f154_c1, f154_2, f154_c2, rfl, hs155, hs156, hb157⟩
   replace hS := hS.call hb157
   replace hS := hS.addR hs155.rd
   replace hS := hS.addR hs156.rd
   refine ⟨_, rfl, (hS.partD (.cons _ (.cons _ (.cons_cons _ (.cons_cons _ (.cons_cons _ .slnil))))) 2 rfl (.refl _)), ?_⟩
   intro a hA
   refine any_one (by kernel_rfl) (op_store (us := [.bool false, .slice f154_1 0 f154_c1, .slice f154_2 1 f154_c2]) hA hS 4 rfl rfl rfl (sets_store rfl rfl rfl (by kernel_rfl) hS 1 rfl rfl rfl) 1 rfl rfl rfl rfl ?_)
   intro w159 hS
   refine ⟨(hS.partD (.cons _ (.cons _ (.cons_cons _ (.cons_cons _ (.cons_cons _ .slnil))))) 2 rfl (.refl _)), ?_⟩
   refine any_one (by kernel_rfl) (op_store (us := [.bool false, .slice ro15 ((words (2 ^ (8 * n))).length) rc16, .slice (some ⟨g20, 0, none⟩) 1 1]) hA hS 5 rfl rfl rfl (sets_store rfl rfl rfl (by kernel_rfl) hS 0 rfl rfl rfl) 0 rfl rfl rfl rfl ?_)
   intro w160 hS
   refine ⟨(hS.partD (.cons _ (.cons _ (.cons_cons _ (.cons_cons _ (.cons_cons _ .slnil))))) 2 rfl (.refl _)), ?_⟩
   refine any_end (by kernel_rfl) ?_
   refine hJ60 _ _ ⟨g141, g152, f154_1, f154_c1, f154_2, f154_c2, hA.keep _ ⟨rfl, rfl, rfl, rfl, rfl, rfl, rfl, rfl, rfl, rfl, rfl, rfl, rfl, rfl, rfl, rfl, rfl, rfl, rfl, rfl, rfl, rfl, rfl, rfl, rfl, rfl, rfl, rfl, rfl, rfl, trivial⟩, (St.pickRL hS ⟨⟨0, rfl⟩, ⟨⟨1, rfl⟩, ⟨⟨2, rfl⟩, ⟨⟨3, rfl⟩, ⟨⟨4, rfl⟩, ⟨⟨5, rfl⟩, ⟨⟨6, rfl⟩, ⟨⟨7, rfl⟩, ⟨⟨8, rfl⟩, ⟨⟨9, rfl⟩, ⟨⟨10, rfl⟩, ⟨⟨11, rfl⟩, trivial⟩⟩⟩⟩⟩⟩⟩⟩⟩⟩⟩⟩ [0, 1, 2, 3, 4] rfl (by decide)), hs156.nil, hs156.cap, hs155.nil, hs155.cap⟩
 ·
  refine op_new (vs := [.bool false, .slice none 0 0, .slice none 0 0]) (t := 25) hA hS 3 rfl rfl rfl rfl (fun g => .pointer (some ⟨g, 0, none⟩)) (does_alloc (z := .agg #[.bool false, .slice none 0 0, .slice none 0 0]) (by kernel_rfl) rfl) rfl ?_
  intro g161 w162 hS
  refine ⟨(hS.partD (.cons _ (.cons_cons _ (.cons_cons _ (.cons_cons _ .slnil)))) 0 rfl (.refl _)), ?_⟩
  intro a hA
  refine any_many (rs := [0, 2]) (by kernel_rfl) (by simp) ⟨?_, ?_, trivial⟩
  ·
   refine op_call hA 0 rfl rfl rfl rfl (enters_func  rfl rfl (fun w => by kernel_rfl)) (rzero_any _) ?_
   rintro _ w167 ⟨f163_1, f163_c1, f163_2, f163_c2, rfl, hs164, hs165, hb166⟩
   replace hS := hS.call hb166
   replace hS := hS.addR hs164.rd
   replace hS := hS.addR hs165.rd
   refine ⟨_, rfl, (hS.partD (.cons _ (.cons_cons _ (.cons_cons _ (.cons_cons _ .slnil)))) 2 rfl (.refl _)), ?_⟩
   intro a hA
   refine any_one (by kernel_rfl) (op_new (vs := [.bool false, .slice none 0 0, .slice none 0 0]) (t := 25) hA hS 2 rfl rfl rfl rfl (fun g => .pointer (some ⟨g, 0, none⟩)) (does_alloc (z := .agg #[.bool false, .slice none 0 0, .slice none 0 0]) (by kernel_rfl) rfl) rfl ?_)
   intro g168 w169 hS
   refine ⟨(hS.partD (.cons _ (.cons _ (.cons_cons _ (.cons_cons _ (.cons_cons _ .slnil))))) 2 rfl (.refl _)), ?_⟩
   intro a hA
   refine any_one (by kernel_rfl) (op_store (us := [.bool false, .slice f163_1 0 f163_c1, .slice f163_2 1 f163_c2]) hA hS 4 rfl rfl rfl (sets_store rfl rfl rfl (by kernel_rfl) hS 0 rfl rfl rfl) 0 rfl rfl rfl rfl ?_)
   intro w170 hS
   refine ⟨(hS.partD (.cons _ (.cons _ (.cons_cons _ (.cons_cons _ (.cons_cons _ .slnil))))) 2 rfl (.refl _)), ?_⟩
   refine any_one (by kernel_rfl) (op_store (us := [.bool false, .slice ro15 ((words (2 ^ (8 * n))).length) rc16, .slice (some ⟨g20, 0, none⟩) 1 1]) hA hS 5 rfl rfl rfl (sets_store rfl rfl rfl (by kernel_rfl) hS 1 rfl rfl rfl) 1 rfl rfl rfl rfl ?_)
   intro w171 hS
   refine ⟨(hS.partD (.cons _ (.cons _ (.cons_cons _ (.cons_cons _ (.cons_cons _ .slnil))))) 2 rfl (.refl _)), ?_⟩
   refine any_end (by kernel_rfl) ?_
   refine hJ60 _ _ ⟨g168, g161, f163_1, f163_c1, f163_2, f163_c2, hA.keep _ ⟨rfl, rfl, rfl, rfl, rfl, rfl, rfl, rfl, rfl, rfl, rfl, rfl, rfl, rfl, rfl, rfl, rfl, rfl, rfl, rfl, rfl, rfl, rfl, rfl, rfl, rfl, rfl, rfl, rfl, rfl, trivial⟩, (St.pickRL hS ⟨⟨0, rfl⟩, ⟨⟨1, rfl⟩, ⟨⟨2, rfl⟩, ⟨⟨3, rfl⟩, ⟨⟨4, rfl⟩, ⟨⟨5, rfl⟩, ⟨⟨6, rfl⟩, ⟨⟨7, rfl⟩, ⟨⟨8, rfl⟩, ⟨⟨9, rfl⟩, ⟨⟨10, rfl⟩, ⟨⟨11, rfl⟩, trivial⟩⟩⟩⟩⟩⟩⟩⟩⟩⟩⟩⟩ [1, 0, 2, 3, 4] rfl (by decide)), hs165.nil, hs165.cap, hs164.nil, hs164.cap⟩
  ·
   refine op_new (vs := [.bool false, .slice none 0 0, .slice none 0 0]) (t := 25) hA hS 2 rfl rfl rfl rfl (fun g => .pointer (some ⟨g, 0, none⟩)) (does_alloc (z := .agg #[.bool false, .slice none 0 0, .slice none 0 0]) (by kernel_rfl) rfl) rfl ?_
   intro g172 w173 hS
   refine ⟨(hS.partD (.cons _ (.cons _ (.cons_cons _ (.cons_cons _ (.cons_cons _ .slnil))))) 0 rfl (.refl _)), ?_⟩
   intro a hA
   refine any_one (by kernel_rfl) (op_call hA 0 rfl rfl rfl rfl (enters_func  rfl rfl (fun w => by kernel_rfl)) (rzero_any _) ?_)
   rintro _ w178 ⟨f174_1, f174_c1, f174_2, f174_c2, rfl, hs175, hs176, hb177⟩
   replace hS := hS.call hb177
   replace hS := hS.addR hs175.rd
   replace hS := hS.addR hs176.rd
   refine ⟨_, rfl, (hS.partD (.cons _ (.cons _ (.cons_cons _ (.cons_cons _ (.cons_cons _ .slnil))))) 2 rfl (.refl _)), ?_⟩
   intro a hA
   refine any_one (by kernel_rfl) (op_store (us := [.bool false, .slice f174_1 0 f174_c1, .slice f174_2 1 f174_c2]) hA hS 4 rfl rfl rfl (sets_store rfl rfl rfl (by kernel_rfl) hS 0 rfl rfl rfl) 0 rfl rfl rfl rfl ?_)
   intro w179 hS
   refine ⟨(hS.partD (.cons _ (.cons _ (.cons_cons _ (.cons_cons _ (.cons_cons _ .slnil))))) 2 rfl (.refl _)), ?_⟩
   refine any_one (by kernel_rfl) (op_store (us := [.bool false, .slice ro15 ((words (2 ^ (8 * n))).length) rc16, .slice (some ⟨g20, 0, none⟩) 1 1]) hA hS 5 rfl rfl rfl (sets_store rfl rfl rfl (by kernel_rfl) hS 1 rfl rfl rfl) 1 rfl rfl rfl rfl ?_)
   intro w180 hS
   refine ⟨(hS.partD (.cons _ (.cons _ (.cons_cons _ (.cons_cons _ (.cons_cons _ .slnil))))) 2 rfl (.refl _)), ?_⟩
   refine any_end (by kernel_rfl) ?_
   refine hJ60 _ _ ⟨g172, g161, f174_1, f174_c1, f174_2, f174_c2, hA.keep _ ⟨rfl, rfl, rfl, rfl, rfl, rfl, rfl, rfl, rfl, rfl, rfl, rfl, rfl, rfl, rfl, rfl, rfl, rfl, rfl, rfl, rfl, rfl, rfl, rfl, rfl, rfl, rfl, rfl, rfl, rfl, trivial⟩, (St.pickRL hS ⟨⟨0, rfl⟩, ⟨⟨1, rfl⟩, ⟨⟨2, rfl⟩, ⟨⟨3, rfl⟩, ⟨⟨4, rfl⟩, ⟨⟨5, rfl⟩, ⟨⟨6, rfl⟩, ⟨⟨7, rfl⟩, ⟨⟨8, rfl⟩, ⟨⟨9, rfl⟩, ⟨⟨10, rfl⟩, ⟨⟨11, rfl⟩, trivial⟩⟩⟩⟩⟩⟩⟩⟩⟩⟩⟩⟩ [1, 0, 2, 3, 4] rfl (by decide)), hs176.nil, hs176.cap, hs175.nil, hs175.cap⟩
theorem rone_large_b_false {b : Bool} {w : World} {x n : Nat} {a1 a2 a3 a4 : Option Addr} {ac1 ac2 ac3 ac4 : Nat} (ha : Nm w (Q6.whole b x) a1 ac1 a2 ac2 a3 ac3 a4 ac4) (hx : (words x).length ≤ 512) (h1 : 1 ≤ n) (h64 : n ≤ 64) (bg : Bool) (hbx : b.toNat ≤ x) (hlg : oI (sgn b x + sgn false 0) < 0 ∨ 0 ≤ oI (sgn b x + sgn true (2 ^ (8 * n)))) : Calls Tryz.prog 21 #[.int .i64 ((n : Nat) : Int), .bool bg, .bool false, numV (Q6.whole b x) a1 ac1 a2 ac2 a3 ac3 a4 ac4] w fun e w' => e = .returned (.tuple #[.slice none 0 0, .int .i64 4]) ∧ Below w.heap.size w w' := by
 refine Calls.mono (rone_b_false ha hx h1 h64 bg hbx) ?_
 rintro e w' (h | ⟨h, _⟩)
 ·
  exact h.2
 ·
  exact (hlg.elim h.1 h.2).elim
theorem rone_ok_b_false {b : Bool} {w : World} {x n : Nat} {a1 a2 a3 a4 : Option Addr} {ac1 ac2 ac3 ac4 : Nat} (ha : Nm w (Q6.whole b x) a1 ac1 a2 ac2 a3 ac3 a4 ac4) (hx : (words x).length ≤ 512) (h1 : 1 ≤ n) (h64 : n ≤ 64) (bg : Bool) (hbx : b.toNat ≤ x) (h9 : ¬ oI (sgn b x + sgn false 0) < 0 ∧ ¬ 0 ≤ oI (sgn b x + sgn true (2 ^ (8 * n)))) : Calls Tryz.prog 21 #[.int .i64 ((n : Nat) : Int), .bool bg, .bool false, numV (Q6.whole b x) a1 ac1 a2 ac2 a3 ac3 a4 ac4] w fun e w' => ∃ g, e = .returned (.tuple #[.slice (some ⟨g, 0, none⟩) n n, .int .i64 0]) ∧ G.Mg w w' [.row G.BY 1 (.slice (some ⟨g, 0, none⟩) n n) n (Lib.byteCells (G.lowB bg (G.leB n x)))] := by
 refine Calls.mono (rone_b_false ha hx h1 h64 bg hbx) ?_
 rintro e w' (⟨h, _⟩ | h)
 ·
  exact (h.elim h9.1 h9.2).elim
 ·
  exact h.2
set_option maxHeartbeats 1000000 in
theorem rone_false_true {w : World} {x n : Nat} {a1 a2 a3 a4 : Option Addr} {ac1 ac2 ac3 ac4 : Nat} (ha : Nm w (Q6.whole false x) a1 ac1 a2 ac2 a3 ac3 a4 ac4) (hx : (words x).length ≤ 512) (h1 : 1 ≤ n) (h64 : n ≤ 64) (bg : Bool) (hbx : false.toNat ≤ x) : Calls Tryz.prog 21 #[.int .i64 ((n : Nat) : Int), .bool bg, .bool true, numV (Q6.whole false x) a1 ac1 a2 ac2 a3 ac3 a4 ac4] w fun e w' => ((oI (sgn false x + sgn false (2 ^ (8 * n - 1))) < 0 ∨ 0 ≤ oI (sgn false x + sgn true (2 ^ (8 * n - 1)))) ∧ e = .returned (.tuple #[.slice none 0 0, .int .i64 4]) ∧ Below w.heap.size w w') ∨ ((¬ oI (sgn false x + sgn false (2 ^ (8 * n - 1))) < 0 ∧ ¬ 0 ≤ oI (sgn false x + sgn true (2 ^ (8 * n - 1)))) ∧ ∃ g, e = .returned (.tuple #[.slice (some ⟨g, 0, none⟩) n n, .int .i64 0]) ∧ G.Mg w w' [.row G.BY 1 (.slice (some ⟨g, 0, none⟩) n n) n (Lib.byteCells (G.lowB bg (G.leB n x)))]) := by
 have hl8 : (words (2 ^ (8 * n))).length ≤ 512 := by rw [pow_8]; exact G.small_words h64 (Nat.le_refl _)
 have hl7 : (words (2 ^ (8 * n - 1))).length ≤ 512 := Nat.le_trans (words_mono (Nat.pow_le_pow_right (by decide) (Nat.sub_le _ _))) hl8
 have hp7 : 2 ^ (8 * n) = 2 * 2 ^ (8 * n - 1) := by rw [← Nat.pow_succ']; congr 1; omega
 have hs : soundQ (Q6.whole false x) = true := soundQ_whole hx hbx
 have hwh : wholeQ (Q6.whole false x) = true := wholeQ_whole hx hbx
 have hbx1 : false.toNat = 0 := rfl
 have hFl : (words x).length ≤ 512 := hx
 have hS : St w w [] [(a4, [1]), (a3, []), (a2, [1]), (a1, words x)] [] := ((((St.start w).addR ha.s1.rd).addR ha.s2.rd).addR ha.s3.rd).addR ha.s4.rd
 refine walk_of (l := [(0, .int .i64 (((n : Nat) : Int))), (1, .bool bg), (2, .bool true), (3, .agg #[.bool false, .slice a1 ((words x).length) ac1, .slice a2 1 ac2, .bool false, .slice a3 0 ac3, .slice a4 1 ac4])]) Tryz.func21 rfl Tryz.ntmps21 rfl rfl ?_
 intro Q hret hnorm hP a hA
 refine wp_seq_k (fun K1 hK1 => ?_)
 refine wp_region_lit ?_
 refine seq_new hA hS rfl rfl rfl (fun g => .pointer (some ⟨g, 0, none⟩)) (does_box rfl rfl) rfl ?_
 intro g2 w3 hS a hA
 refine seq_do hA rfl rfl rfl (does_assign rfl) fun a hA => ?_
 refine seq_do hA rfl rfl rfl (does_assign rfl) fun a hA => ?_
 refine seq_end ?_
 refine hK1 _ _ ?_
 refine wp_seq_k (fun K4 hK4 => ?_)
 refine wp_seq_k (fun K5 hK5 => ?_)
 refine wp_region_lit ?_
 refine seq_do hA rfl rfl rfl (does_loadS hS GvJ_isS_27 rfl 0 rfl (cs := [.bool false, .slice a1 ((words x).length) ac1, .slice a2 1 ac2, .bool false, .slice a3 0 ac3, .slice a4 1 ac4]) rfl rfl) fun a hA => ?_
 refine seq_call hA rfl rfl rfl (enters_func  rfl rfl (fun w => by kernel_rfl)) (rsoundQ_any (show Nm _ _ a1 ac1 a2 ac2 a3 ac3 a4 ac4 from ⟨⟨(hS.rd 3 rfl), ha.s1.nil, ha.s1.cap⟩, ⟨(hS.rd 2 rfl), ha.s2.nil, ha.s2.cap⟩, ⟨(hS.rd 1 rfl), ha.s3.nil, ha.s3.cap⟩, ⟨(hS.rd 0 rfl), ha.s4.nil, ha.s4.cap⟩⟩) (lenQ_whole hx) hs) ?_
 rintro _ w7 ⟨rfl, hb6⟩
 replace hS := hS.call hb6
 refine ⟨_, rfl, ?_⟩
 intro a hA
 refine seq_do (v := .bool false) hA rfl rfl rfl (does_un rfl un_not) fun a hA => ?_
 refine seq_end ?_
 refine hK5 _ _ ?_
 refine wp_cond_false (hA.ev rfl) ?_
 refine wp_skip ?_
 refine hK4 _ _ ?_
 refine wp_seq_k (fun K8 hK8 => ?_)
 refine wp_seq_k (fun K9 hK9 => ?_)
 refine wp_region_lit ?_
 refine seq_do hA rfl rfl rfl (does_loadS hS GvJ_isS_27 rfl 0 rfl (cs := [.bool false, .slice a1 ((words x).length) ac1, .slice a2 1 ac2, .bool false, .slice a3 0 ac3, .slice a4 1 ac4]) rfl rfl) fun a hA => ?_
 refine seq_call hA rfl rfl rfl (enters_func  rfl rfl (fun w => by kernel_rfl)) (rwholeQ_any (q := Q6.whole false x) (show Nm _ _ a1 ac1 a2 ac2 a3 ac3 a4 ac4 from ⟨⟨(hS.rd 3 rfl), ha.s1.nil, ha.s1.cap⟩, ⟨(hS.rd 2 rfl), ha.s2.nil, ha.s2.cap⟩, ⟨(hS.rd 1 rfl), ha.s3.nil, ha.s3.cap⟩, ⟨(hS.rd 0 rfl), ha.s4.nil, ha.s4.cap⟩⟩) (lenQ_whole hx) hwh) ?_
 rintro _ w11 ⟨rfl, hb10⟩
 replace hS := hS.call hb10
 refine ⟨_, rfl, ?_⟩
 intro a hA
 refine seq_do (v := .bool false) hA rfl rfl rfl (does_un rfl un_not) fun a hA => ?_
 refine seq_end ?_
 refine hK9 _ _ ?_
 refine wp_cond_false (hA.ev rfl) ?_
 refine wp_skip ?_
 refine hK8 _ _ ?_
 refine wp_seq_k (fun K12 hK12 => ?_)
 refine wp_region_lit ?_
 refine seq_newU (us := [1]) (t := 57) (m := 1) hA hS rfl rfl rfl (does_buildSlice rfl (by kernel_rfl)) (by simp [Dig]) ?_
 intro g13 w14 hS a hA
 refine seq_do hA rfl rfl rfl (does_move rfl) fun a hA => ?_
 refine seq_do (v := .int .i64 (((8 * n : Nat) : Int))) hA rfl rfl rfl (does_bin rfl rfl (ar_mul ((in_i64 (by omega) (by omega)).trans (by omega)))) fun a hA => ?_
 refine seq_call hA rfl rfl rfl (enters_func  rfl rfl (fun w => by kernel_rfl)) (rup1 _ (hS.rd 0 rfl) (n := 8 * n) (by omega)) ?_
 rintro _ w19 ⟨ro15, rc16, rfl, ho17, hb18⟩
 replace hS := hS.call hb18
 replace hS := hS.addR ho17.rd
 refine ⟨_, rfl, ?_⟩
 intro a hA
 refine seq_newU (us := [1]) (t := 57) (m := 1) hA hS rfl rfl rfl (does_buildSlice rfl (by kernel_rfl)) (by simp [Dig]) ?_
 intro g20 w21 hS a hA
 refine seq_do (v := .agg #[.bool false, .slice ro15 ((words (2 ^ (8 * n))).length) rc16, .slice (some ⟨g20, 0, none⟩) 1 1]) hA rfl rfl rfl (does_build rfl (fun w => by kernel_rfl)) fun a hA => ?_
 refine seq_new (vs := [.bool false, .slice none 0 0, .slice none 0 0]) (t := 25) hA hS rfl rfl rfl (fun g => .pointer (some ⟨g, 0, none⟩)) (does_alloc (z := .agg #[.bool false, .slice none 0 0, .slice none 0 0]) (by kernel_rfl) rfl) rfl ?_
 intro g22 w23 hS a hA
 refine seq_store (us := [.bool false, .slice ro15 ((words (2 ^ (8 * n))).length) rc16, .slice (some ⟨g20, 0, none⟩) 1 1]) hA hS rfl rfl (sets_store rfl rfl rfl (by kernel_rfl) hS 0 rfl rfl rfl) 0 rfl rfl rfl rfl ?_
 intro w24 hS
 refine seq_end ?_
 refine hK12 _ _ ?_
 refine wp_seq_k (fun K25 hK25 => ?_)
 refine wp_region_lit ?_
 refine seq_newU (us := [1]) (t := 57) (m := 1) hA hS rfl rfl rfl (does_buildSlice rfl (by kernel_rfl)) (by simp [Dig]) ?_
 intro g26 w27 hS a hA
 refine seq_do hA rfl rfl rfl (does_move rfl) fun a hA => ?_
 refine seq_do (v := .int .i64 (((8 * n : Nat) : Int))) hA rfl rfl rfl (does_bin rfl rfl (ar_mul ((in_i64 (by omega) (by omega)).trans (by omega)))) fun a hA => ?_
 refine seq_do (v := .int .i64 (((8 * n - 1 : Nat) : Int))) hA rfl rfl rfl (does_bin rfl rfl (fun w => (bin_sub (i64In (by omega) (by omega)) w).trans (by rw [show (((8 * n : Nat) : Int) - 1 : Int) = ((8 * n - 1 : Nat) : Int) from by omega]))) fun a hA => ?_
 refine seq_call hA rfl rfl rfl (enters_func  rfl rfl (fun w => by kernel_rfl)) (rup1 _ (hS.rd 0 rfl) (n := 8 * n - 1) (by omega)) ?_
 rintro _ w32 ⟨ro28, rc29, rfl, ho30, hb31⟩
 replace hS := hS.call hb31
 replace hS := hS.addR ho30.rd
 refine ⟨_, rfl, ?_⟩
 intro a hA
 refine seq_newU (us := [1]) (t := 57) (m := 1) hA hS rfl rfl rfl (does_buildSlice rfl (by kernel_rfl)) (by simp [Dig]) ?_
 intro g33 w34 hS a hA
 refine seq_do (v := .agg #[.bool false, .slice ro28 ((words (2 ^ (8 * n - 1))).length) rc29, .slice (some ⟨g33, 0, none⟩) 1 1]) hA rfl rfl rfl (does_build rfl (fun w => by kernel_rfl)) fun a hA => ?_
 refine seq_new (vs := [.bool false, .slice none 0 0, .slice none 0 0]) (t := 25) hA hS rfl rfl rfl (fun g => .pointer (some ⟨g, 0, none⟩)) (does_alloc (z := .agg #[.bool false, .slice none 0 0, .slice none 0 0]) (by kernel_rfl) rfl) rfl ?_
 intro g35 w36 hS a hA
 refine seq_store (us := [.bool false, .slice ro28 ((words (2 ^ (8 * n - 1))).length) rc29, .slice (some ⟨g33, 0, none⟩) 1 1]) hA hS rfl rfl (sets_store rfl rfl rfl (by kernel_rfl) hS 0 rfl rfl rfl) 0 rfl rfl rfl rfl ?_
 intro w37 hS
 refine seq_end ?_
 refine hK25 _ _ ?_
 refine wp_seq_k (fun K38 hK38 => ?_)
 have hJ60 : ∀ a w1, (∃ (J50g : Nat) (J51g : Nat) (J52 : Option Addr) (J53 : Nat) (J54 : Option Addr) (J55 : Nat), Sl a 101 [(0, .int .i64 (((n : Nat) : Int))), (1, .bool bg), (2, .bool true), (3, .agg #[.bool false, .slice a1 ((words x).length) ac1, .slice a2 1 ac2, .bool false, .slice a3 0 ac3, .slice a4 1 ac4]), (7, .pointer (some ⟨g2, 0, none⟩)), (8, .slice none 0 0), (9, .int .i64 0), (10, .pointer (some ⟨g22, 0, none⟩)), (11, .pointer (some ⟨g35, 0, none⟩)), (12, .pointer (some ⟨J50g, 0, none⟩)), (13, .pointer (some ⟨J51g, 0, none⟩)), (21, .agg #[.bool false, .slice a1 ((words x).length) ac1, .slice a2 1 ac2, .bool false, .slice a3 0 ac3, .slice a4 1 ac4]), (22, .bool true), (23, .bool false), (24, .agg #[.bool false, .slice a1 ((words x).length) ac1, .slice a2 1 ac2, .bool false, .slice a3 0 ac3, .slice a4 1 ac4]), (25, .bool true), (26, .bool false), (27, .slice (some ⟨g13, 0, none⟩) 1 1), (28, .int .i64 (((n : Nat) : Int))), (29, .int .i64 (((8 * n : Nat) : Int))), (30, .slice ro15 ((words (2 ^ (8 * n))).length) rc16), (31, .slice (some ⟨g20, 0, none⟩) 1 1), (32, .agg #[.bool false, .slice ro15 ((words (2 ^ (8 * n))).length) rc16, .slice (some ⟨g20, 0, none⟩) 1 1]), (33, .slice (some ⟨g26, 0, none⟩) 1 1), (34, .int .i64 (((n : Nat) : Int))), (35, .int .i64 (((8 * n : Nat) : Int))), (36, .int .i64 (((8 * n - 1 : Nat) : Int))), (37, .slice ro28 ((words (2 ^ (8 * n - 1))).length) rc29), (38, .slice (some ⟨g33, 0, none⟩) 1 1), (39, .agg #[.bool false, .slice ro28 ((words (2 ^ (8 * n - 1))).length) rc29, .slice (some ⟨g33, 0, none⟩) 1 1])] ∧ St w w1 [(J51g, [.bool false, .slice ro15 ((words (2 ^ (8 * n))).length) rc16, .slice (some ⟨g20, 0, none⟩) 1 1]), (J50g, [.bool false, .slice J52 0 J53, .slice J54 1 J55]), (g35, [.bool false, .slice ro28 ((words (2 ^ (8 * n - 1))).length) rc29, .slice (some ⟨g33, 0, none⟩) 1 1]), (g22, [.bool false, .slice ro15 ((words (2 ^ (8 * n))).length) rc16, .slice (some ⟨g20, 0, none⟩) 1 1]), (g2, [.bool false, .slice a1 ((words x).length) ac1, .slice a2 1 ac2, .bool false, .slice a3 0 ac3, .slice a4 1 ac4])] [(J54, [1]), (J52, []), (some ⟨g33, 0, none⟩, [1]), (ro28, words (2 ^ (8 * n - 1))), (some ⟨g26, 0, none⟩, [1]), (some ⟨g20, 0, none⟩, [1]), (ro15, words (2 ^ (8 * n))), (some ⟨g13, 0, none⟩, [1]), (a4, [1]), (a3, []), (a2, [1]), (a1, words x)] [] ∧ (J54 = none → J55 = 0) ∧ ([1] : List Nat).length ≤ J55 ∧ (J52 = none → J53 = 0) ∧ ([] : List Nat).length ≤ J53) → K38 a w1 := by
  clear hA hS
  rintro a w61 ⟨J50g, J51g, J52, J53, J54, J55, hA, hS, hn56, hc57, hn58, hc59⟩
  refine hK38 _ _ ?_
  refine wp_seq_k (fun K62 hK62 => ?_)
  refine wp_seq_k (fun K63 hK63 => ?_)
  refine wp_region_lit ?_
  refine seq_do hA rfl rfl rfl (does_move rfl) fun a hA => ?_
  refine seq_end ?_
  refine hK63 _ _ ?_
  refine wp_cond_true (hA.ev rfl) ?_
  refine wp_draw (S := fun w1 => St w w1 [(g35, [.bool false, .slice ro28 ((words (2 ^ (8 * n - 1))).length) rc29, .slice (some ⟨g33, 0, none⟩) 1 1]), (g22, [.bool false, .slice ro15 ((words (2 ^ (8 * n))).length) rc16, .slice (some ⟨g20, 0, none⟩) 1 1]), (g2, [.bool false, .slice a1 ((words x).length) ac1, .slice a2 1 ac2, .bool false, .slice a3 0 ac3, .slice a4 1 ac4])] [(J54, [1]), (J52, []), (some ⟨g33, 0, none⟩, [1]), (ro28, words (2 ^ (8 * n - 1))), (some ⟨g26, 0, none⟩, [1]), (some ⟨g20, 0, none⟩, [1]), (ro15, words (2 ^ (8 * n))), (some ⟨g13, 0, none⟩, [1]), (a4, [1]), (a3, []), (a2, [1]), (a1, words x)] []) (by kernel_rfl) ?_
  replace hS := hS.drew
  refine any_tk hA 0 rfl rfl rfl rfl hP (hS.partD (.cons _ (.cons _ (.cons_cons _ (.cons_cons _ (.cons_cons _ .slnil))))) 0 rfl (.refl _)) (fun w1 hS => does_loadS hS GvJ_isS_25 rfl 0 rfl (cs := [.bool false, .slice ro28 ((words (2 ^ (8 * n - 1))).length) rc29, .slice (some ⟨g33, 0, none⟩) 1 1]) rfl rfl) fun a hA => ?_
  refine any_tk hA 2 rfl rfl rfl rfl hP (hS.partD (.cons _ (.cons _ (.cons_cons _ (.cons_cons _ (.cons_cons _ .slnil))))) 0 rfl (.refl _)) (fun w1 hS => does_loadS hS GvJ_isS_25 rfl 0 rfl (cs := [.bool false, .slice ro28 ((words (2 ^ (8 * n - 1))).length) rc29, .slice (some ⟨g33, 0, none⟩) 1 1]) rfl rfl) fun a hA => ?_
  refine any_one (by kernel_rfl) (op_call hA 1 rfl rfl rfl rfl (enters_func  rfl rfl (fun w => by kernel_rfl)) (rminus_any (r := true) (by rw [decide_eq_true (words_len_pos.2 (Nat.pos_iff_ne_zero.1 (Nat.two_pow_pos _)))]; rfl)) ?_)
  rintro _ w65 ⟨rfl, hb64⟩
  replace hS := hS.call hb64
  refine ⟨_, rfl, (hS.partD (.cons _ (.cons _ (.cons_cons _ (.cons_cons _ (.cons_cons _ .slnil))))) 0 rfl (.refl _)), ?_⟩
  intro a hA
  refine any_one (by kernel_rfl) (op_store (us := [.bool true, .slice ro28 ((words (2 ^ (8 * n - 1))).length) rc29, .slice (some ⟨g33, 0, none⟩) 1 1]) hA hS 3 rfl rfl rfl (sets_store rfl rfl rfl (by kernel_rfl) hS 1 rfl rfl rfl) 1 rfl rfl rfl rfl ?_)
  intro w66 hS
  refine ⟨(hS.partD (.cons _ (.cons _ (.cons_cons _ (.cons_cons _ (.cons_cons _ .slnil))))) 0 rfl (.refl _)), ?_⟩
  refine any_one (by kernel_rfl) (op_store (us := [.bool false, .slice ro28 ((words (2 ^ (8 * n - 1))).length) rc29, .slice (some ⟨g33, 0, none⟩) 1 1]) hA hS 4 rfl rfl rfl (sets_store rfl rfl rfl (by kernel_rfl) hS 0 rfl rfl rfl) 0 rfl rfl rfl rfl ?_)
  intro w67 hS
  refine ⟨(hS.partD (.cons _ (.cons _ (.cons_cons _ (.cons_cons _ (.cons_cons _ .slnil))))) 0 rfl (.refl _)), ?_⟩
  refine any_end (by kernel_rfl) ?_
  refine hK62 _ _ ?_
  refine wp_seq_k (fun K68 hK68 => ?_)
  refine wp_seq_k (fun K69 hK69 => ?_)
  refine wp_region_lit ?_
  refine seq_do (v := .pointer (some ⟨g2, 0, none⟩)) hA rfl rfl rfl (does_field GvJ_fld_27_0 rfl rfl) fun a hA => ?_
  refine seq_do hA rfl rfl rfl (does_loadS hS GvJ_isS_25 rfl 4 rfl (cs := [.bool false, .slice a1 ((words x).length) ac1, .slice a2 1 ac2]) rfl rfl) fun a hA => ?_
  refine seq_do hA rfl rfl rfl (does_loadS hS GvJ_isS_25 rfl 1 rfl (cs := [.bool true, .slice ro28 ((words (2 ^ (8 * n - 1))).length) rc29, .slice (some ⟨g33, 0, none⟩) 1 1]) rfl rfl) fun a hA => ?_
  refine seq_call hA rfl rfl rfl (enters_func  rfl rfl (fun w => by kernel_rfl)) (rorderW (b1 := false) (b2 := true) (b3 := false) (x := x) (y := 2 ^ (8 * n - 1)) ⟨(hS.rd 11 rfl), ha.s1.nil, ha.s1.cap⟩ ⟨(hS.rd 10 rfl), ha.s2.nil, ha.s2.cap⟩ ⟨(hS.rd 3 rfl), ho30.nocap, ho30.caps⟩ ⟨(hS.rd 2 rfl), (fun h => by cases h), (Nat.le_refl _)⟩ rfl rfl hx hl7 rfl rfl) ?_
  rintro _ w71 ⟨rfl, hb70⟩
  replace hS := hS.call hb70
  refine ⟨_, rfl, ?_⟩
  intro a hA
  rcases Bool.eq_false_or_eq_true (decide (oI (sgn false x + sgn false (2 ^ (8 * n - 1))) < 0)) with hb72 | hb72
  ·
   have hb72' := of_decide_eq_true hb72
   refine seq_do (v := .bool true) hA rfl rfl rfl (does_bin rfl rfl (fun w => (bin_lss w).trans (by rw [hb72]))) fun a hA => ?_
   refine seq_do hA rfl rfl rfl (does_move rfl) fun a hA => ?_
   refine seq_skip hA rfl rfl rfl fun a hA => ?_
   refine seq_skip hA rfl rfl rfl fun a hA => ?_
   refine seq_skip hA rfl rfl rfl fun a hA => ?_
   refine seq_skip hA rfl rfl rfl fun a hA => ?_
   refine seq_skip hA rfl rfl rfl fun a hA => ?_
   refine seq_do (v := .bool true) hA rfl rfl rfl (does_pick rfl rfl rfl rfl) fun a hA => ?_
   refine seq_end ?_
   refine hK69 _ _ ?_
   refine wp_cond_true (hA.ev rfl) ?_
   refine wp_seq_k (fun K73 hK73 => ?_)
   refine wp_region_lit ?_
   refine seq_do hA rfl rfl rfl (does_assign rfl) fun a hA => ?_
   refine seq_do hA rfl rfl rfl (does_assign rfl) fun a hA => ?_
   refine seq_end ?_
   refine hK73 _ _ ?_
   refine wp_ret ?_
   refine hret _ _ ?_
   refine ends (v := .tuple #[.slice none 0 0, .int .i64 4]) hA rfl (.cons (res_tmp rfl) (.cons (res_tmp rfl) .nil)) rfl ?_
   exact .inl ⟨.inl hb72', rfl, hS.bel⟩
  ·
   have hb72' := of_decide_eq_false hb72
   refine seq_do (v := .bool false) hA rfl rfl rfl (does_bin rfl rfl (fun w => (bin_lss w).trans (by rw [hb72]))) fun a hA => ?_
   refine seq_do hA rfl rfl rfl (does_move rfl) fun a hA => ?_
   refine seq_do (v := .pointer (some ⟨g2, 0, none⟩)) hA rfl rfl rfl (does_field GvJ_fld_27_0 rfl rfl) fun a hA => ?_
   refine seq_do hA rfl rfl rfl (does_loadS hS GvJ_isS_25 rfl 4 rfl (cs := [.bool false, .slice a1 ((words x).length) ac1, .slice a2 1 ac2]) rfl rfl) fun a hA => ?_
   refine seq_do hA rfl rfl rfl (does_loadS hS GvJ_isS_25 rfl 0 rfl (cs := [.bool false, .slice ro28 ((words (2 ^ (8 * n - 1))).length) rc29, .slice (some ⟨g33, 0, none⟩) 1 1]) rfl rfl) fun a hA => ?_
   refine seq_call hA rfl rfl rfl (enters_func  rfl rfl (fun w => by kernel_rfl)) (rorderW (b1 := false) (b2 := false) (b3 := true) (x := x) (y := 2 ^ (8 * n - 1)) ⟨(hS.rd 11 rfl), ha.s1.nil, ha.s1.cap⟩ ⟨(hS.rd 10 rfl), ha.s2.nil, ha.s2.cap⟩ ⟨(hS.rd 3 rfl), ho30.nocap, ho30.caps⟩ ⟨(hS.rd 2 rfl), (fun h => by cases h), (Nat.le_refl _)⟩ rfl rfl hx hl7 (by rw [decide_eq_true (words_len_pos.2 (Nat.pos_iff_ne_zero.1 (Nat.two_pow_pos _)))]; rfl) rfl) ?_
   rintro _ w75 ⟨rfl, hb74⟩
   replace hS := hS.call hb74
   refine ⟨_, rfl, ?_⟩
   intro a hA
   rcases Bool.eq_false_or_eq_true (decide (0 ≤ oI (sgn false x + sgn true (2 ^ (8 * n - 1))))) with hb76 | hb76
   ·
    have hb76' := of_decide_eq_true hb76
    refine seq_do (v := .bool true) hA rfl rfl rfl (does_bin rfl rfl (fun w => (bin_geq w).trans (by rw [hb76]))) fun a hA => ?_
    refine seq_do (v := .bool true) hA rfl rfl rfl (does_pick rfl rfl rfl rfl) fun a hA => ?_
    refine seq_end ?_
    refine hK69 _ _ ?_
    refine wp_cond_true (hA.ev rfl) ?_
    refine wp_seq_k (fun K77 hK77 => ?_)
    refine wp_region_lit ?_
    refine seq_do hA rfl rfl rfl (does_assign rfl) fun a hA => ?_
    refine seq_do hA rfl rfl rfl (does_assign rfl) fun a hA => ?_
    refine seq_end ?_
    refine hK77 _ _ ?_
    refine wp_ret ?_
    refine hret _ _ ?_
    refine ends (v := .tuple #[.slice none 0 0, .int .i64 4]) hA rfl (.cons (res_tmp rfl) (.cons (res_tmp rfl) .nil)) rfl ?_
    exact .inl ⟨.inr hb76', rfl, hS.bel⟩
   ·
    have hb76' := of_decide_eq_false hb76
    refine seq_do (v := .bool false) hA rfl rfl rfl (does_bin rfl rfl (fun w => (bin_geq w).trans (by rw [hb76]))) fun a hA => ?_
    refine seq_do (v := .bool false) hA rfl rfl rfl (does_pick rfl rfl rfl rfl) fun a hA => ?_
    refine seq_end ?_
    refine hK69 _ _ ?_
    refine wp_cond_false (hA.ev rfl) ?_
    refine wp_skip ?_
    refine hK68 _ _ ?_
    refine wp_seq_k (fun K78 hK78 => ?_)
    refine wp_region_lit ?_
    refine seq_do (v := .pointer (some ⟨g2, 0, none⟩)) hA rfl rfl rfl (does_field GvJ_fld_27_0 rfl rfl) fun a hA => ?_
    refine seq_do hA rfl rfl rfl (does_loadS hS GvJ_isS_25 rfl 4 rfl (cs := [.bool false, .slice a1 ((words x).length) ac1, .slice a2 1 ac2]) rfl rfl) fun a hA => ?_
    refine seq_new (vs := [.bool false, .slice none 0 0, .slice none 0 0]) (t := 25) hA hS rfl rfl rfl (fun g => .pointer (some ⟨g, 0, none⟩)) (does_alloc (z := .agg #[.bool false, .slice none 0 0, .slice none 0 0]) (by kernel_rfl) rfl) rfl ?_
    intro g79 w80 hS a hA
    refine seq_store (us := [.bool false, .slice a1 ((words x).length) ac1, .slice a2 1 ac2]) hA hS rfl rfl (sets_store rfl rfl rfl (by kernel_rfl) hS 0 rfl rfl rfl) 0 rfl rfl rfl rfl ?_
    intro w81 hS
    refine seq_end ?_
    refine hK78 _ _ ?_
    refine wp_seq_k (fun K82 hK82 => ?_)
    refine wp_seq_k (fun K83 hK83 => ?_)
    refine wp_region_lit ?_
    refine seq_do (v := .pointer (some ⟨g79, 0, none⟩)) hA rfl rfl rfl (does_field GvJ_fld_25_0 rfl rfl) fun a hA => ?_
    refine seq_do hA rfl rfl rfl (does_load1 hS GvJ_is1_4 rfl 0 rfl rfl) fun a hA => ?_
    refine seq_end ?_
    refine hK83 _ _ ?_
    refine wp_cond_false (hA.ev rfl) ?_
    refine wp_skip ?_
    refine hK82 _ _ ?_
    refine wp_seq_k (fun K84 hK84 => ?_)
    refine wp_region_lit ?_
    refine seq_do hA rfl rfl rfl (does_move rfl) fun a hA => ?_
    have hL0 : Sc w81 a1 ac1 (words x) := ⟨(hS.rd 11 rfl), ha.s1.nil, ha.s1.cap⟩
    have hW : Below w.heap.size w w81 := hS.bel
    have hF14 : Blk w81 g79 [.bool false, .slice a1 ((words x).length) ac1, .slice a2 1 ac2] := (hS.own (g79, [.bool false, .slice a1 ((words x).length) ac1, .slice a2 1 ac2]) (by simp)).2
    clear hS
    have hM : G.Mg w81 w81 [] := G.Mg.start w81
    refine G.s_makeN (z := .int .u8 0) (sz := 1) (by_ := 1) (m := n) (toG hA) hM Tryz.underlying22 (by kernel_rfl) rfl rfl rfl rfl rfl rfl (by omega) (by omega) (.inr (G.noBld_quiet G.quietL_nil)) ?_
    intro gx w85 hM hC a hA
    replace hA := ofG hA
    rw [lowI_made bg n x] at hM
    replace hL0 := G.sc_carry hL0 hC
    have hS : St w81 w85 [] [] [] := St.bare hM.bel
    refine seq_do hA rfl rfl rfl (does_assign rfl) fun a hA => ?_
    refine seq_end ?_
    refine hK84 _ _ ?_
    refine wp_seq_k (fun K86 hK86 => ?_)
    refine wp_region_lit ?_
    refine seq_do (v := .pointer (some ⟨g79, 1, none⟩)) hA rfl rfl rfl (does_field GvJ_fld_25_1 rfl rfl) fun a hA => ?_
    refine seq_do (v := .slice a1 ((words x).length) ac1) hA rfl rfl rfl (does_load1F hS hF14 GvJ_is1_23 rfl rfl) fun a hA => ?_
    refine seq_do hA rfl rfl rfl (does_assign rfl) fun a hA => ?_
    refine seq_end ?_
    refine hK86 _ _ ?_
    refine wp_seq_k (fun K87 hK87 => ?_)
    refine wp_seq_k (fun K88 hK88 => ?_)
    refine wp_region_lit ?_
    refine seq_do hA rfl rfl rfl (does_assign rfl) fun a hA => ?_
    refine seq_end ?_
    refine hK88 _ _ ?_
    refine wp_block ?_
    refine wp_loop_n (fun m a w1 => ∃ (k : Nat) (V : Nat) (lo : Option Addr) (lc : Nat), m = 1 + (n - k) ∧ (k ≤ n ∧ V = x / 256 ^ k ∧ Sc w1 lo lc (words V) ∧ G.Mg w81 w1 [.row G.BY 1 (.slice (some ⟨gx, 0, none⟩) n n) n (Lib.byteCells (G.lowB bg (G.lbI n x k)))]) ∧ Sl a 101 [(0, .int .i64 (((n : Nat) : Int))), (1, .bool bg), (8, .slice none 0 0), (9, .int .i64 0), (15, .slice (some ⟨gx, 0, none⟩) n n), (16, .slice lo ((words V).length) lc), (17, .int .i64 (((k : Nat) : Int)))] ∧ St w81 w1 [] [] []) _ ⟨0, x, a1, ac1, rfl, ⟨Nat.zero_le _, (by rw [Nat.pow_zero, Nat.div_one]), hL0, hM⟩, hA.keep _ ⟨rfl, rfl, rfl, rfl, rfl, rfl, rfl, trivial⟩, hS⟩ ?_
    clear hS hA
    rintro m a w89 ⟨k, V, lo, lc, rfl, hinv91, hA, hS⟩ K90 hK90
    obtain ⟨hk9, hV, hL, hM⟩ := hinv91
    have hVl : (words V).length ≤ 512 := Nat.le_trans (words_mono (by rw [hV]; exact Nat.div_le_self _ _)) hFl
    refine wp_seq_k (fun K92 hK92 => ?_)
    refine wp_seq_k (fun K93 hK93 => ?_)
    refine wp_region_lit ?_
    refine seq_do hA rfl rfl rfl (does_move rfl) fun a hA => ?_
    refine seq_do hA rfl rfl rfl (does_move rfl) fun a hA => ?_
    rcases Bool.eq_false_or_eq_true (decide (((k : Nat) : Int) < ((n : Nat) : Int))) with hb94 | hb94
    ·
     have hb94' := of_decide_eq_true hb94
     refine seq_do (v := .bool true) hA rfl rfl rfl (does_bin rfl rfl (fun w => (bin_lss w).trans (by rw [hb94]))) fun a hA => ?_
     refine seq_end ?_
     refine hK93 _ _ ?_
     refine wp_cond_true (hA.ev rfl) ?_
     refine wp_skip ?_
     refine hK92 _ _ ?_
     refine wp_seq_k (fun K95 hK95 => ?_)
     refine wp_block ?_
     refine wp_seq_k (fun K96 hK96 => ?_)
     refine wp_region_lit ?_
     refine seq_do hA rfl rfl rfl (does_move rfl) fun a hA => ?_
     refine seq_newB (us := [256]) (t := 57) (m := 1) hA hS rfl rfl rfl (does_buildSlice rfl (by kernel_rfl)) (by simp [Dig]) ?_
     intro g97 w98 hS hB99 a hA
     replace hM := hM.call hB99
     replace hL : Sc w98 lo lc (words V) := G.sc_carry hL (fun _ _ r => r.below hB99)
     refine seq_call hA rfl rfl rfl (enters_func  rfl rfl (fun w => by kernel_rfl)) (rover256 (x := V) _ _ (hL.rd.below (Below.refl _ _)) (hS.rd 0 rfl) hVl) ?_
     rintro _ w107 ⟨qo100, qc101, ro102, rc103, rfl, hq104, hr105, hb106⟩
     replace hS := hS.call hb106
     replace hS := hS.addR hq104.rd
     replace hS := hS.addR hr105.rd
     refine ⟨_, rfl, ?_⟩
     intro a hA
     replace hM := hM.call hb106
     refine seq_do hA rfl rfl rfl (does_move rfl) fun a hA => ?_
     refine seq_do (v := .slice qo100 ((words (V / 256)).length) qc101) hA rfl rfl rfl (does_extract (vs := [.slice qo100 ((words (V / 256)).length) qc101, .slice ro102 ((words (V % 256)).length) rc103]) rfl rfl) fun a hA => ?_
     refine seq_do (v := .slice ro102 ((words (V % 256)).length) rc103) hA rfl rfl rfl (does_extract (vs := [.slice qo100 ((words (V / 256)).length) qc101, .slice ro102 ((words (V % 256)).length) rc103]) rfl rfl) fun a hA => ?_
     refine seq_do hA rfl rfl rfl (does_assign rfl) fun a hA => ?_
     refine seq_do hA rfl rfl rfl (does_assign rfl) fun a hA => ?_
     refine seq_end ?_
     refine hK96 _ _ ?_
     refine wp_seq_k (fun K108 hK108 => ?_)
     refine wp_region_lit ?_
     refine seq_do hA rfl rfl rfl (does_assign rfl) fun a hA => ?_
     refine seq_end ?_
     refine hK108 _ _ ?_
     refine wp_seq_k (fun K109 hK109 => ?_)
     refine wp_seq_k (fun K110 hK110 => ?_)
     refine wp_region_lit ?_
     refine seq_do hA rfl rfl rfl (does_move rfl) fun a hA => ?_
     refine seq_do (v := .int .i64 ((((words (V % 256)).length : Nat) : Int))) hA rfl rfl rfl (does_len Tryz.underlying23 rfl) fun a hA => ?_
     rcases Bool.eq_false_or_eq_true (decide (0 < (((words (V % 256)).length : Nat) : Int))) with hb111 | hb111
     ·
      have hb111' := of_decide_eq_true hb111
      refine seq_do (v := .bool true) hA rfl rfl rfl (does_bin rfl rfl (fun w => (bin_gtr w).trans (by rw [hb111]))) fun a hA => ?_
      refine seq_end ?_
      refine hK110 _ _ ?_
      refine wp_cond_true (hA.ev rfl) ?_
      refine wp_region_lit ?_
      refine seq_do hA rfl rfl rfl (does_move rfl) fun a hA => ?_
      have hi115 : 0 < (words (V % 256)).length := by first | omega | (simp only [List.length_set]; omega)
      obtain ⟨b112, f113, hso114⟩ := Rd.addr (hS.rd 0 rfl) hi115
      refine seq_do (v := .pointer (some ⟨b112, f113 + 0, none⟩)) hA rfl rfl rfl (does_indexRow (k := 0) Tryz.underlying23 (by kernel_rfl) rfl rfl (by omega) hso114 hi115) fun a hA => ?_
      refine seq_do (v := .int .u32 ((((words (V % 256)).getD 0 0 : Nat) : Int))) hA rfl rfl rfl (does_loadRow (hS.rd 0 rfl) hso114 hi115 GvJ_is1_57 rfl) fun a hA => ?_
      refine seq_do (v := .int .u8 (((V % 256 : Nat) : Int))) hA rfl rfl rfl (does_convert rfl (ar_conv Tryz.underlying57 Tryz.underlying5 (conv0 V))) fun a hA => ?_
      refine seq_do hA rfl rfl rfl (does_assign rfl) fun a hA => ?_
      refine seq_end ?_
      refine hK109 _ _ ?_
      refine wp_seq_k (fun K116 hK116 => ?_)
      refine wp_seq_k (fun K117 hK117 => ?_)
      refine wp_region_lit ?_
      refine seq_do hA rfl rfl rfl (does_move rfl) fun a hA => ?_
      refine seq_end ?_
      refine hK117 _ _ ?_
      refine wp_cond_split (t := bg) (hA.ev rfl) (fun hc118 => ?_) (fun hc118 => ?_)
      ·
       refine wp_region_lit ?_
       refine seq_do hA rfl rfl rfl (does_move rfl) fun a hA => ?_
       refine seq_do hA rfl rfl rfl (does_move rfl) fun a hA => ?_
       refine seq_do (v := .int .i64 (((n - 1 : Nat) : Int))) hA rfl rfl rfl (does_bin rfl rfl (fun w => (bin_sub (i64In (by omega) (by omega)) w).trans (by rw [show (((n : Nat) : Int) - 1 : Int) = ((n - 1 : Nat) : Int) from by omega]))) fun a hA => ?_
       refine seq_do hA rfl rfl rfl (does_move rfl) fun a hA => ?_
       refine seq_do (v := .int .i64 ((((n - 1) - k : Nat) : Int))) hA rfl rfl rfl (does_bin rfl rfl (fun w => (bin_sub (i64In (by omega) (by omega)) w).trans (by rw [show (((n - 1 : Nat) : Int) - ((k : Nat) : Int) : Int) = (((n - 1) - k : Nat) : Int) from by omega]))) fun a hA => ?_
       refine seq_do hA rfl rfl rfl (does_move rfl) fun a hA => ?_
       refine seq_do (v := .pointer (some ⟨gx, ((n - 1) - k) * 1, none⟩)) hA rfl rfl rfl (does_ixZ (k := (n - 1) - k) Tryz.underlying22 (by kernel_rfl) rfl rfl rfl (by omega)) fun a hA => ?_
       have hq9 : Sc w107 qo100 qc101 (words (V / 256)) := ⟨(hS.rd 1 rfl), hq104.nocap, hq104.caps⟩
       refine G.s_storeEN (c := .int .u8 (((V % 256 : Nat) : Int))) (q := ((n - 1) - k) * 1) (toG hA) hM rfl rfl (G.m_storeE rfl rfl rfl (by kernel_rfl) hM 0 rfl (show ((n - 1) - k) * 1 + 1 ≤ n * 1 by omega) rfl) 0 rfl (G.cells_get (l := G.lowB bg (G.lbI n x k)) (i := (n - 1) - k) (by rw [G.low_len, G.lbI_len]; omega)) rfl rfl ?_
       intro w119 hM hC9
       replace hq9 := G.sc_carry hq9 hC9
       replace hM : G.Mg w81 w119 [.row G.BY 1 (.slice (some ⟨gx, 0, none⟩) n n) n (Lib.byteCells (G.lowB bg (G.lbI n x (k + 1))))] := by
        have h9 := lowI_step (bg := bg) (n := n) (F := x) (k := k) (V := V) (i := (n - 1) - k) (c := ((V % 256 : Nat) : Int)) (by omega) hV (by rw [hc118]; rfl) rfl
        rw [← h9]
        exact hM
       replace hS : St w81 w119 [] [] [] := St.bare hM.bel
       refine seq_end ?_
       refine hK116 _ _ ?_
       refine wp_region_lit ?_
       refine seq_do hA rfl rfl rfl (does_move rfl) fun a hA => ?_
       refine seq_do hA rfl rfl rfl (does_assign rfl) fun a hA => ?_
       refine seq_end ?_
       refine hK95 _ _ ?_
       refine wp_region_lit ?_
       refine seq_do hA rfl rfl rfl (does_move rfl) fun a hA => ?_
       refine seq_do (v := .int .i64 (((k + 1 : Nat) : Int))) hA rfl rfl rfl (does_bin rfl rfl (fun w => (bin_add (i64In (by omega) (by omega)) w).trans (by rw [show (((k : Nat) : Int) + 1 : Int) = ((k + 1 : Nat) : Int) from by omega]))) fun a hA => ?_
       refine seq_do hA rfl rfl rfl (does_assign rfl) fun a hA => ?_
       refine seq_end ?_
       refine hK90 _ _ _ (by omega) ⟨k + 1, V / 256, qo100, qc101, rfl, ⟨by omega, (by rw [hV, Nat.div_div_eq_div_mul, ← Nat.pow_succ]), hq9, hM⟩, hA.keep _ ⟨rfl, rfl, rfl, rfl, rfl, rfl, rfl, trivial⟩, hS⟩
      ·
       refine wp_region_lit ?_
       refine seq_do hA rfl rfl rfl (does_move rfl) fun a hA => ?_
       refine seq_do hA rfl rfl rfl (does_move rfl) fun a hA => ?_
       refine seq_do hA rfl rfl rfl (does_move rfl) fun a hA => ?_
       refine seq_do (v := .pointer (some ⟨gx, (k) * 1, none⟩)) hA rfl rfl rfl (does_ixZ (k := k) Tryz.underlying22 (by kernel_rfl) rfl rfl rfl (by omega)) fun a hA => ?_
       have hq9 : Sc w107 qo100 qc101 (words (V / 256)) := ⟨(hS.rd 1 rfl), hq104.nocap, hq104.caps⟩
       refine G.s_storeEN (c := .int .u8 (((V % 256 : Nat) : Int))) (q := (k) * 1) (toG hA) hM rfl rfl (G.m_storeE rfl rfl rfl (by kernel_rfl) hM 0 rfl (show (k) * 1 + 1 ≤ n * 1 by omega) rfl) 0 rfl (G.cells_get (l := G.lowB bg (G.lbI n x k)) (i := k) (by rw [G.low_len, G.lbI_len]; omega)) rfl rfl ?_
       intro w120 hM hC9
       replace hq9 := G.sc_carry hq9 hC9
       replace hM : G.Mg w81 w120 [.row G.BY 1 (.slice (some ⟨gx, 0, none⟩) n n) n (Lib.byteCells (G.lowB bg (G.lbI n x (k + 1))))] := by
        have h9 := lowI_step (bg := bg) (n := n) (F := x) (k := k) (V := V) (i := k) (c := ((V % 256 : Nat) : Int)) (by omega) hV (by rw [hc118]; rfl) rfl
        rw [← h9]
        exact hM
       replace hS : St w81 w120 [] [] [] := St.bare hM.bel
       refine seq_end ?_
       refine hK116 _ _ ?_
       refine wp_region_lit ?_
       refine seq_do hA rfl rfl rfl (does_move rfl) fun a hA => ?_
       refine seq_do hA rfl rfl rfl (does_assign rfl) fun a hA => ?_
       refine seq_end ?_
       refine hK95 _ _ ?_
       refine wp_region_lit ?_
       refine seq_do hA rfl rfl rfl (does_move rfl) fun a hA => ?_
       refine seq_do (v := .int .i64 (((k + 1 : Nat) : Int))) hA rfl rfl rfl (does_bin rfl rfl (fun w => (bin_add (i64In (by omega) (by omega)) w).trans (by rw [show (((k : Nat) : Int) + 1 : Int) = ((k + 1 : Nat) : Int) from by omega]))) fun a hA => ?_
       refine seq_do hA rfl rfl rfl (does_assign rfl) fun a hA => ?_
       refine seq_end ?_
       refine hK90 _ _ _ (by omega) ⟨k + 1, V / 256, qo100, qc101, rfl, ⟨by omega, (by rw [hV, Nat.div_div_eq_div_mul, ← Nat.pow_succ]), hq9, hM⟩, hA.keep _ ⟨rfl, rfl, rfl, rfl, rfl, rfl, rfl, trivial⟩, hS⟩
     ·
      have hb111' := of_decide_eq_false hb111
      refine seq_do (v := .bool false) hA rfl rfl rfl (does_bin rfl rfl (fun w => (bin_gtr w).trans (by rw [hb111]))) fun a hA => ?_
      refine seq_end ?_
      refine hK110 _ _ ?_
      refine wp_cond_false (hA.ev rfl) ?_
      refine wp_skip ?_
      refine hK109 _ _ ?_
      refine wp_seq_k (fun K121 hK121 => ?_)
      refine wp_seq_k (fun K122 hK122 => ?_)
      refine wp_region_lit ?_
      refine seq_do hA rfl rfl rfl (does_move rfl) fun a hA => ?_
      refine seq_end ?_
      refine hK122 _ _ ?_
      refine wp_cond_split (t := bg) (hA.ev rfl) (fun hc123 => ?_) (fun hc123 => ?_)
      ·
       refine wp_region_lit ?_
       refine seq_do hA rfl rfl rfl (does_move rfl) fun a hA => ?_
       refine seq_do hA rfl rfl rfl (does_move rfl) fun a hA => ?_
       refine seq_do (v := .int .i64 (((n - 1 : Nat) : Int))) hA rfl rfl rfl (does_bin rfl rfl (fun w => (bin_sub (i64In (by omega) (by omega)) w).trans (by rw [show (((n : Nat) : Int) - 1 : Int) = ((n - 1 : Nat) : Int) from by omega]))) fun a hA => ?_
       refine seq_do hA rfl rfl rfl (does_move rfl) fun a hA => ?_
       refine seq_do (v := .int .i64 ((((n - 1) - k : Nat) : Int))) hA rfl rfl rfl (does_bin rfl rfl (fun w => (bin_sub (i64In (by omega) (by omega)) w).trans (by rw [show (((n - 1 : Nat) : Int) - ((k : Nat) : Int) : Int) = (((n - 1) - k : Nat) : Int) from by omega]))) fun a hA => ?_
       refine seq_do hA rfl rfl rfl (does_move rfl) fun a hA => ?_
       refine seq_do (v := .pointer (some ⟨gx, ((n - 1) - k) * 1, none⟩)) hA rfl rfl rfl (does_ixZ (k := (n - 1) - k) Tryz.underlying22 (by kernel_rfl) rfl rfl rfl (by omega)) fun a hA => ?_
       have hz0 : V % 256 = 0 := by
        apply Classical.byContradiction
        intro k9
        have := words_len_pos.2 k9
        omega
       have hq9 : Sc w107 qo100 qc101 (words (V / 256)) := ⟨(hS.rd 1 rfl), hq104.nocap, hq104.caps⟩
       refine G.s_storeEN (c := .int .u8 0) (q := ((n - 1) - k) * 1) (toG hA) hM rfl rfl (G.m_storeE rfl rfl rfl (by kernel_rfl) hM 0 rfl (show ((n - 1) - k) * 1 + 1 ≤ n * 1 by omega) rfl) 0 rfl (G.cells_get (l := G.lowB bg (G.lbI n x k)) (i := (n - 1) - k) (by rw [G.low_len, G.lbI_len]; omega)) rfl rfl ?_
       intro w124 hM hC9
       replace hq9 := G.sc_carry hq9 hC9
       replace hM : G.Mg w81 w124 [.row G.BY 1 (.slice (some ⟨gx, 0, none⟩) n n) n (Lib.byteCells (G.lowB bg (G.lbI n x (k + 1))))] := by
        have h9 := lowI_step (bg := bg) (n := n) (F := x) (k := k) (V := V) (i := (n - 1) - k) (c := 0) (by omega) hV (by rw [hc123]; rfl) (by rw [hz0]; rfl)
        rw [← h9]
        exact hM
       replace hS : St w81 w124 [] [] [] := St.bare hM.bel
       refine seq_end ?_
       refine hK121 _ _ ?_
       refine wp_region_lit ?_
       refine seq_do hA rfl rfl rfl (does_move rfl) fun a hA => ?_
       refine seq_do hA rfl rfl rfl (does_assign rfl) fun a hA => ?_
       refine seq_end ?_
       refine hK95 _ _ ?_
       refine wp_region_lit ?_
       refine seq_do hA rfl rfl rfl (does_move rfl) fun a hA => ?_
       refine seq_do (v := .int .i64 (((k + 1 : Nat) : Int))) hA rfl rfl rfl (does_bin rfl rfl (fun w => (bin_add (i64In (by omega) (by omega)) w).trans (by rw [show (((k : Nat) : Int) + 1 : Int) = ((k + 1 : Nat) : Int) from by omega]))) fun a hA => ?_
       refine seq_do hA rfl rfl rfl (does_assign rfl) fun a hA => ?_
       refine seq_end ?_
       refine hK90 _ _ _ (by omega) ⟨k + 1, V / 256, qo100, qc101, rfl, ⟨by omega, (by rw [hV, Nat.div_div_eq_div_mul, ← Nat.pow_succ]), hq9, hM⟩, hA.keep _ ⟨rfl, rfl, rfl, rfl, rfl, rfl, rfl, trivial⟩, hS⟩
      ·
       refine wp_region_lit ?_
       refine seq_do hA rfl rfl rfl (does_move rfl) fun a hA => ?_
       refine seq_do hA rfl rfl rfl (does_move rfl) fun a hA => ?_
       refine seq_do hA rfl rfl rfl (does_move rfl) fun a hA => ?_
       refine seq_do (v := .pointer (some ⟨gx, (k) * 1, none⟩)) hA rfl rfl rfl (does_ixZ (k := k) Tryz.underlying22 (by kernel_rfl) rfl rfl rfl (by omega)) fun a hA => ?_
       have hz0 : V % 256 = 0 := by
        apply Classical.byContradiction
        intro k9
        have := words_len_pos.2 k9
        omega
       have hq9 : Sc w107 qo100 qc101 (words (V / 256)) := ⟨(hS.rd 1 rfl), hq104.nocap, hq104.caps⟩
       refine G.s_storeEN (c := .int .u8 0) (q := (k) * 1) (toG hA) hM rfl rfl (G.m_storeE rfl rfl rfl (by kernel_rfl) hM 0 rfl (show (k) * 1 + 1 ≤ n * 1 by omega) rfl) 0 rfl (G.cells_get (l := G.lowB bg (G.lbI n x k)) (i := k) (by rw [G.low_len, G.lbI_len]; omega)) rfl rfl ?_
       intro w125 hM hC9
       replace hq9 := G.sc_carry hq9 hC9
       replace hM : G.Mg w81 w125 [.row G.BY 1 (.slice (some ⟨gx, 0, none⟩) n n) n (Lib.byteCells (G.lowB bg (G.lbI n x (k + 1))))] := by
        have h9 := lowI_step (bg := bg) (n := n) (F := x) (k := k) (V := V) (i := k) (c := 0) (by omega) hV (by rw [hc123]; rfl) (by rw [hz0]; rfl)
        rw [← h9]
        exact hM
       replace hS : St w81 w125 [] [] [] := St.bare hM.bel
       refine seq_end ?_
       refine hK121 _ _ ?_
       refine wp_region_lit ?_
       refine seq_do hA rfl rfl rfl (does_move rfl) fun a hA => ?_
       refine seq_do hA rfl rfl rfl (does_assign rfl) fun a hA => ?_
       refine seq_end ?_
       refine hK95 _ _ ?_
       refine wp_region_lit ?_
       refine seq_do hA rfl rfl rfl (does_move rfl) fun a hA => ?_
       refine seq_do (v := .int .i64 (((k + 1 : Nat) : Int))) hA rfl rfl rfl (does_bin rfl rfl (fun w => (bin_add (i64In (by omega) (by omega)) w).trans (by rw [show (((k : Nat) : Int) + 1 : Int) = ((k + 1 : Nat) : Int) from by omega]))) fun a hA => ?_
       refine seq_do hA rfl rfl rfl (does_assign rfl) fun a hA => ?_
       refine seq_end ?_
       refine hK90 _ _ _ (by omega) ⟨k + 1, V / 256, qo100, qc101, rfl, ⟨by omega, (by rw [hV, Nat.div_div_eq_div_mul, ← Nat.pow_succ]), hq9, hM⟩, hA.keep _ ⟨rfl, rfl, rfl, rfl, rfl, rfl, rfl, trivial⟩, hS⟩
    ·
     have hb94' := of_decide_eq_false hb94
     refine seq_do (v := .bool false) hA rfl rfl rfl (does_bin rfl rfl (fun w => (bin_lss w).trans (by rw [hb94]))) fun a hA => ?_
     refine seq_end ?_
     refine hK93 _ _ ?_
     refine wp_cond_false (hA.ev rfl) ?_
     refine wp_exit ?_
     refine hK87 _ _ ?_
     refine wp_seq_k (fun K126 hK126 => ?_)
     refine wp_region_lit ?_
     refine seq_do hA rfl rfl rfl (does_move rfl) fun a hA => ?_
     refine seq_do hA rfl rfl rfl (does_assign rfl) fun a hA => ?_
     refine seq_do hA rfl rfl rfl (does_assign rfl) fun a hA => ?_
     refine seq_end ?_
     refine hK126 _ _ ?_
     refine wp_ret ?_
     refine hret _ _ ?_
     refine ends (v := .tuple #[.slice (some ⟨gx, 0, none⟩) n n, .int .i64 0]) hA rfl (.cons (res_tmp rfl) (.cons (res_tmp rfl) .nil)) rfl ?_
     rw [show k = n from by omega, lbI_done'] at hM
     exact .inr ⟨⟨hb72', hb76'⟩, gx, rfl, G.Mg.low hW hM (G.noBld_cons (by simp) (G.noBld_quiet G.quietL_nil))⟩
 refine wp_draw (S := fun w1 => St w w1 [(g35, [.bool false, .slice ro28 ((words (2 ^ (8 * n - 1))).length) rc29, .slice (some ⟨g33, 0, none⟩) 1 1]), (g22, [.bool false, .slice ro15 ((words (2 ^ (8 * n))).length) rc16, .slice (some ⟨g20, 0, none⟩) 1 1]), (g2, [.bool false, .slice a1 ((words x).length) ac1, .slice a2 1 ac2, .bool false, .slice a3 0 ac3, .slice a4 1 ac4])] [(some ⟨g33, 0, none⟩, [1]), (ro28, words (2 ^ (8 * n - 1))), (some ⟨g26, 0, none⟩, [1]), (some ⟨g20, 0, none⟩, [1]), (ro15, words (2 ^ (8 * n))), (some ⟨g13, 0, none⟩, [1]), (a4, [1]), (a3, []), (a2, [1]), (a1, words x)] []) (by kernel_rfl) ?_
 replace hS := hS.drew
 refine any_tk hA 1 rfl rfl rfl rfl hP hS (fun w1 hS => does_loadS hS GvJ_isS_25 rfl 1 rfl (cs := [.bool false, .slice ro15 ((words (2 ^ (8 * n))).length) rc16, .slice (some ⟨g20, 0, none⟩) 1 1]) rfl rfl) fun a hA => ?_
 refine any_many (rs := [0, 2, 3]) (by kernel_rfl) (by simp) ⟨?_, ?_, ?_, trivial⟩
 ·
  refine op_call hA 0 rfl rfl rfl rfl (enters_func  rfl rfl (fun w => by kernel_rfl)) (rzero_any _) ?_
  rintro _ w131 ⟨f127_1, f127_c1, f127_2, f127_c2, rfl, hs128, hs129, hb130⟩
  replace hS := hS.call hb130
  replace hS := hS.addR hs128.rd
  replace hS := hS.addR hs129.rd
  refine ⟨_, rfl, (hS.partD (.refl _) 2 rfl (.refl _)), ?_⟩
  intro a hA
  refine any_many (rs := [2, 3]) (by kernel_rfl) (by simp) ⟨?_, ?_, trivial⟩
  ·
   refine op_new (vs := [.bool false, .slice none 0 0, .slice none 0 0]) (t := 25) hA hS 2 rfl rfl rfl rfl (fun g => .pointer (some ⟨g, 0, none⟩)) (does_alloc (z := .agg #[.bool false, .slice none 0 0, .slice none 0 0]) (by kernel_rfl) rfl) rfl ?_
   intro g132 w133 hS
   refine ⟨(hS.partD (.cons _ (.cons_cons _ (.cons_cons _ (.cons_cons _ .slnil)))) 2 rfl (.refl _)), ?_⟩
   intro a hA
   refine any_one (by kernel_rfl) (op_new (vs := [.bool false, .slice none 0 0, .slice none 0 0]) (t := 25) hA hS 3 rfl rfl rfl rfl (fun g => .pointer (some ⟨g, 0, none⟩)) (does_alloc (z := .agg #[.bool false, .slice none 0 0, .slice none 0 0]) (by kernel_rfl) rfl) rfl ?_)
   intro g134 w135 hS
   refine ⟨(hS.partD (.cons _ (.cons _ (.cons_cons _ (.cons_cons _ (.cons_cons _ .slnil))))) 2 rfl (.refl _)), ?_⟩
   intro a hA
   refine any_one (by kernel_rfl) (op_store (us := [.bool false, .slice f127_1 0 f127_c1, .slice f127_2 1 f127_c2]) hA hS 4 rfl rfl rfl (sets_store rfl rfl rfl (by kernel_rfl) hS 1 rfl rfl rfl) 1 rfl rfl rfl rfl ?_)
   intro w136 hS
   refine ⟨(hS.partD (.cons _ (.cons _ (.cons_cons _ (.cons_cons _ (.cons_cons _ .slnil))))) 2 rfl (.refl _)), ?_⟩
   refine any_one (by kernel_rfl) (op_store (us := [.bool false, .slice ro15 ((words (2 ^ (8 * n))).length) rc16, .slice (some ⟨g20, 0, none⟩) 1 1]) hA hS 5 rfl rfl rfl (sets_store rfl rfl rfl (by kernel_rfl) hS 0 rfl rfl rfl) 0 rfl rfl rfl rfl ?_)
   intro w137 hS
   refine ⟨(hS.partD (.cons _ (.cons _ (.cons_cons _ (.cons_cons _ (.cons_cons _ .slnil))))) 2 rfl (.refl _)), ?_⟩
   refine any_end (by kernel_rfl) ?_
   refine hJ60 _ _ ⟨g132, g134, f127_1, f127_c1, f127_2, f127_c2, hA.keep _ ⟨rfl, rfl, rfl, rfl, rfl, rfl, rfl, rfl, rfl, rfl, rfl, rfl, rfl, rfl, rfl, rfl, rfl, rfl, rfl, rfl, rfl, rfl, rfl, rfl, rfl, rfl, rfl, rfl, rfl, rfl, trivial⟩, (St.pickRL hS ⟨⟨0, rfl⟩, ⟨⟨1, rfl⟩, ⟨⟨2, rfl⟩, ⟨⟨3, rfl⟩, ⟨⟨4, rfl⟩, ⟨⟨5, rfl⟩, ⟨⟨6, rfl⟩, ⟨⟨7, rfl⟩, ⟨⟨8, rfl⟩, ⟨⟨9, rfl⟩, ⟨⟨10, rfl⟩, ⟨⟨11, rfl⟩, trivial⟩⟩⟩⟩⟩⟩⟩⟩⟩⟩⟩⟩ [0, 1, 2, 3, 4] rfl (by decide)), hs129.nil, hs129.cap, hs128.nil, hs128.cap⟩
  ·
   refine op_new (vs := [.bool false, .slice none 0 0, .slice none 0 0]) (t := 25) hA hS 3 rfl rfl rfl rfl (fun g => .pointer (some ⟨g, 0, none⟩)) (does_alloc (z := .agg #[.bool false, .slice none 0 0, .slice none 0 0]) (by kernel_rfl) rfl) rfl ?_
   intro g138 w139 hS
   refine ⟨(hS.partD (.cons _ (.cons_cons _ (.cons_cons _ (.cons_cons _ .slnil)))) 2 rfl (.refl _)), ?_⟩
   intro a hA
   refine any_one (by kernel_rfl) (op_new (vs := [.bool false, .slice none 0 0, .slice none 0 0]) (t := 25) hA hS 2 rfl rfl rfl rfl (fun g => .pointer (some ⟨g, 0, none⟩)) (does_alloc (z := .agg #[.bool false, .slice none 0 0, .slice none 0 0]) (by kernel_rfl) rfl) rfl ?_)
   intro g140 w141 hS
   refine ⟨(hS.partD (.cons _ (.cons _ (.cons_cons _ (.cons_cons _ (.cons_cons _ .slnil))))) 2 rfl (.refl _)), ?_⟩
   intro a hA
   refine any_one (by kernel_rfl) (op_store (us := [.bool false, .slice f127_1 0 f127_c1, .slice f127_2 1 f127_c2]) hA hS 4 rfl rfl rfl (sets_store rfl rfl rfl (by kernel_rfl) hS 0 rfl rfl rfl) 0 rfl rfl rfl rfl ?_)
   intro w142 hS
   refine ⟨(hS.partD (.cons _ (.cons _ (.cons_cons _ (.cons_cons _ (.cons_cons _ .slnil))))) 2 rfl (.refl _)), ?_⟩
   refine any_one (by kernel_rfl) (op_store (us := [.bool false, .slice ro15 ((words (2 ^ (8 * n))).length) rc16, .slice (some ⟨g20, 0, none⟩) 1 1]) hA hS 5 rfl rfl rfl (sets_store rfl rfl rfl (by kernel_rfl) hS 1 rfl rfl rfl) 1 rfl rfl rfl rfl ?_)
   intro w143 hS
   refine ⟨(hS.partD (.cons _ (.cons _ (.cons_cons _ (.cons_cons _ (.cons_cons _ .slnil))))) 2 rfl (.refl _)), ?_⟩
   refine any_end (by kernel_rfl) ?_
   refine hJ60 _ _ ⟨g140, g138, f127_1, f127_c1, f127_2, f127_c2, hA.keep _ ⟨rfl, rfl, rfl, rfl, rfl, rfl, rfl, rfl, rfl, rfl, rfl, rfl, rfl, rfl, rfl, rfl, rfl, rfl, rfl, rfl, rfl, rfl, rfl, rfl, rfl, rfl, rfl, rfl, rfl, rfl, trivial⟩, (St.pickRL hS ⟨⟨0, rfl⟩, ⟨⟨1, rfl⟩, ⟨⟨2, rfl⟩, ⟨⟨3, rfl⟩, ⟨⟨4, rfl⟩, ⟨⟨5, rfl⟩, ⟨⟨6, rfl⟩, ⟨⟨7, rfl⟩, ⟨⟨8, rfl⟩, ⟨⟨9, rfl⟩, ⟨⟨10, rfl⟩, ⟨⟨11, rfl⟩, trivial⟩⟩⟩⟩⟩⟩⟩⟩⟩⟩⟩⟩ [1, 0, 2, 3, 4] rfl (by decide)), hs129.nil, hs129.cap, hs128.nil, hs128.cap⟩
 ·
  refine op_new (vs := [.bool false, .slice none 0 0, .slice none 0 0]) (t := 25) hA hS 2 rfl rfl rfl rfl (fun g => .pointer (some ⟨g, 0, none⟩)) (does_alloc (z := .agg #[.bool false, .slice none 0 0, .slice none 0 0]) (by kernel_rfl) rfl) rfl ?_
  intro g144 w145 hS
  refine ⟨(hS.partD (.cons _ (.cons_cons _ (.cons_cons _ (.cons_cons _ .slnil)))) 0 rfl (.refl _)), ?_⟩
  intro a hA
  refine any_many (rs := [0, 3]) (by kernel_rfl) (by simp) ⟨?_, ?_, trivial⟩
  ·
   refine op_call hA 0 rfl rfl rfl rfl (enters_func  rfl rfl (fun w => by kernel_rfl)) (rzero_any _) ?_
   rintro _ w150 ⟨f146_1, f146_c1, f146_2, f146_c2, rfl, hs147, hs148, hb149⟩
   replace hS := hS.call hb149
   replace hS := hS.addR hs147.rd
   replace hS := hS.addR hs148.rd
   refine ⟨_, rfl, (hS.partD (.cons _ (.cons_cons _ (.cons_cons _ (.cons_cons _ .slnil)))) 2 rfl (.refl _)), ?_⟩
   intro a hA
   refine any_one (by kernel_rfl) (op_new (vs := [.bool false, .slice none 0 0, .slice none 0 0]) (t := 25) hA hS 3 rfl rfl rfl rfl (fun g => .pointer (some ⟨g, 0, none⟩)) (does_alloc (z := .agg #[.bool false, .slice none 0 0, .slice none 0 0]) (by kernel_rfl) rfl) rfl ?_)
   intro g151 w152 hS
   refine ⟨(hS.partD (.cons _ (.cons _ (.cons_cons _ (.cons_cons _ (.cons_cons _ .slnil))))) 2 rfl (.refl _)), ?_⟩
   intro a hA
   refine any_one (by kernel_rfl) (op_store (us := [.bool false, .slice f146_1 0 f146_c1, .slice f146_2 1 f146_c2]) hA hS 4 rfl rfl rfl (sets_store rfl rfl rfl (by kernel_rfl) hS 1 rfl rfl rfl) 1 rfl rfl rfl rfl ?_)
   intro w153 hS
   refine ⟨(hS.partD (.cons _ (.cons _ (.cons_cons _ (.cons_cons _ (.cons_cons _ .slnil))))) 2 rfl (.refl _)), ?_⟩
   refine any_one (by kernel_rfl) (op_store (us := [.bool false, .slice ro15 ((words (2 ^ (8 * n))).length) rc16, .slice (some ⟨g20, 0, none⟩) 1 1]) hA hS 5 rfl rfl rfl (sets_store rfl rfl rfl (by kernel_rfl) hS 0 rfl rfl rfl) 0 rfl rfl rfl rfl ?_)
   intro w154 hS
   refine ⟨(hS.partD (.cons _ (.cons _ (.cons_cons _ (.cons_cons _ (.cons_cons _ .slnil))))) 2 rfl (.refl _)), ?_⟩
   refine any_end (by kernel_rfl) ?_
   refine hJ60 _ _ ⟨g144, g151, f146_1, f146_c1, f146_2, f146_c2, hA.keep _ ⟨rfl, rfl, rfl, rfl, rfl, rfl, rfl, rfl, rfl, rfl, rfl, rfl, rfl, rfl, rfl, rfl, rfl, rfl, rfl, rfl, rfl, rfl, rfl, rfl, rfl, rfl, rfl, rfl, rfl, rfl, trivial⟩, (St.pickRL hS ⟨⟨0, rfl⟩, ⟨⟨1, rfl⟩, ⟨⟨2, rfl⟩, ⟨⟨3, rfl⟩, ⟨⟨4, rfl⟩, ⟨⟨5, rfl⟩, ⟨⟨6, rfl⟩, ⟨⟨7, rfl⟩, ⟨⟨8, rfl⟩, ⟨⟨9, rfl⟩, ⟨⟨10, rfl⟩, ⟨⟨11, rfl⟩, trivial⟩⟩⟩⟩⟩⟩⟩⟩⟩⟩⟩⟩ [0, 1, 2, 3, 4] rfl (by decide)), hs148.nil, hs148.cap, hs147.nil, hs147.cap⟩
  ·
   refine op_new (vs := [.bool false, .slice none 0 0, .slice none 0 0]) (t := 25) hA hS 3 rfl rfl rfl rfl (fun g => .pointer (some ⟨g, 0, none⟩)) (does_alloc (z := .agg #[.bool false, .slice none 0 0, .slice none 0 0]) (by kernel_rfl) rfl) rfl ?_
   intro g155 w156 hS
   refine ⟨(hS.partD (.cons _ (.cons _ (.cons_cons _ (.cons_cons _ (.cons_cons _ .slnil))))) 0 rfl (.refl _)), ?_⟩
   intro a hA
   refine any_one (by kernel_rfl) (op_call hA 0 rfl rfl rfl rfl (enters_func  rfl rfl (fun w => by kernel_rfl)) (rzero_any _) ?_)
   rintro _ w161 ⟨f157_1, f157_c1, f157_2, f157_c2, rfl, hs158, hs159, hb160⟩
   replace hS := hS.call hb160
   replace hS := hS.addR hs158.rd
   replace hS := hS.addR hs159.rd
   refine ⟨_, rfl, (hS.partD (.cons _ (.cons _ (.cons_cons _ (.cons_cons _ (.cons_cons _ .slnil))))) 2 rfl (.refl _)), ?_⟩
   intro a hA
   refine any_one (by kernel_rfl) (op_store (us := [.bool false, .slice f157_1 0 f157_c1, .slice f157_2 1 f157_c2]) hA hS 4 rfl rfl rfl (sets_store rfl rfl rfl (by kernel_rfl) hS 1 rfl rfl rfl) 1 rfl rfl rfl rfl ?_)
   intro w162 hS
   refine ⟨(hS.partD (.cons _ (.cons _ (.cons_cons _ (.cons_cons _ (.cons_cons _ .slnil))))) 2 rfl (.refl _)), ?_⟩
   refine any_one (by kernel_rfl) (op_store (us := [.bool false, .slice ro15 ((words (2 ^ (8 * n))).length) rc16, .slice (some ⟨g20, 0, none⟩) 1 1]) hA hS 5 rfl rfl rfl (sets_store rfl rfl rfl (by kernel_rfl) hS 0 rfl rfl rfl) 0 rfl rfl rfl rfl ?_)
   intro w163 hS
   refine ⟨(hS.partD (.cons _ (.cons _ (.cons_cons _ (.cons_cons _ (.cons_cons _ .slnil))))) 2 rfl (.refl _)), ?_⟩
   refine any_end (by kernel_rfl) ?_
   refine hJ60 _ _ ⟨g144, g155, f157_1, f157_c1, f157_2, f157_c2, hA.keep _ ⟨rfl, rfl, rfl, rfl, rfl, rfl, rfl, rfl, rfl, rfl, rfl, rfl, rfl, rfl, rfl, rfl, rfl, rfl, rfl, rfl, rfl, rfl, rfl, rfl, rfl, rfl, rfl, rfl, rfl, rfl, trivial⟩, (St.pickRL hS ⟨⟨0, rfl⟩, ⟨⟨1, rfl⟩, ⟨⟨2, rfl⟩, ⟨⟨3, rfl⟩, ⟨⟨4, rfl⟩, ⟨⟨5, rfl⟩, ⟨⟨6, rfl⟩, ⟨⟨7, rfl⟩, ⟨⟨8, rfl⟩, ⟨⟨9, rfl⟩, ⟨⟨10, rfl⟩, ⟨⟨11, rfl⟩, trivial⟩⟩⟩⟩⟩⟩⟩⟩⟩⟩⟩⟩ [0, 1, 2, 3, 4] rfl (by decide)), hs159.nil, hs159.cap, hs158.nil, hs158.cap⟩
 ·
  refine op_new (vs := [.bool false, .slice none 0 0, .slice none 0 0]) (t := 25) hA hS 3 rfl rfl rfl rfl (fun g => .pointer (some ⟨g, 0, none⟩)) (does_alloc (z := .agg #[.bool false, .slice none 0 0, .slice none 0 0]) (by kernel_rfl) rfl) rfl ?_
  intro g164 w165 hS
  refine ⟨(hS.partD (.cons _ (.cons_cons _ (.cons_cons _ (.cons_cons _ .slnil)))) 0 rfl (.refl _)), ?_⟩
  intro a hA
  refine any_many (rs := [0, 2]) (by kernel_rfl) (by simp) ⟨?_, ?_, trivial⟩
  ·
   refine op_call hA 0 rfl rfl rfl rfl (enters_func  rfl rfl (fun w => by kernel_rfl)) (rzero_any _) ?_
   rintro _ w170 ⟨f166_1, f166_c1, f166_2, f166_c2, rfl, hs167, hs168, hb169⟩
   replace hS := hS.call hb169
   replace hS := hS.addR hs167.rd
   replace hS := hS.addR hs168.rd
   refine ⟨_, rfl, (hS.partD (.cons _ (.cons_cons _ (.cons_cons _ (.cons_cons _ .slnil)))) 2 rfl (.refl _)), ?_⟩
   intro a hA
   refine any_one (by kernel_rfl) (op_new (vs := [.bool false, .slice none 0 0, .slice none 0 0]) (t := 25) hA hS 2 rfl rfl rfl rfl (fun g => .pointer (some ⟨g, 0, none⟩)) (does_alloc (z := .agg #[.bool false, .slice none 0 0, .slice none 0 0]) (by kernel_rfl) rfl) rfl ?_)
   intro g171 w172 hS
   refine ⟨(hS.partD (.cons _ (.cons _ (.cons_cons _ (.cons_cons _ (.cons_cons _ .slnil))))) 2 rfl (.refl _)), ?_⟩
   intro a hA
   refine any_one (by kernel_rfl) (op_store (us := [.bool false, .slice f166_1 0 f166_c1, .slice f166_2 1 f166_c2]) hA hS 4 rfl rfl rfl (sets_store rfl rfl rfl (by kernel_rfl) hS 0 rfl rfl rfl) 0 rfl rfl rfl rfl ?_)
   intro w173 hS
   refine ⟨(hS.partD (.cons _ (.cons _ (.cons_cons _ (.cons_cons _ (.cons_cons _ .slnil))))) 2 rfl (.refl _)), ?_⟩
   refine any_one (by kernel_rfl) (op_store (us := [.bool false, .slice ro15 ((words (2 ^ (8 * n))).length) rc16, .slice (some ⟨g20, 0, none⟩) 1 1]) hA hS 5 rfl rfl rfl (sets_store rfl rfl rfl (by kernel_rfl) hS 1 rfl rfl rfl) 1 rfl rfl rfl rfl ?_)
   intro w174 hS
   refine ⟨(hS.partD (.cons _ (.cons _ (.cons_cons _ (.cons_cons _ (.cons_cons _ .slnil))))) 2 rfl (.refl _)), ?_⟩
   refine any_end (by kernel_rfl) ?_
   refine hJ60 _ _ ⟨g171, g164, f166_1, f166_c1, f166_2, f166_c2, hA.keep _ ⟨rfl, rfl, rfl, rfl, rfl, rfl, rfl, rfl, rfl, rfl, rfl, rfl, rfl, rfl, rfl, rfl, rfl, rfl, rfl, rfl, rfl, rfl, rfl, rfl, rfl, rfl, rfl, rfl, rfl, rfl, trivial⟩, (St.pickRL hS ⟨⟨0, rfl⟩, ⟨⟨1, rfl⟩, ⟨⟨2, rfl⟩, ⟨⟨3, rfl⟩, ⟨⟨4, rfl⟩, ⟨⟨5, rfl⟩, ⟨⟨6, rfl⟩, ⟨⟨7, rfl⟩, ⟨⟨8, rfl⟩, ⟨⟨9, rfl⟩, ⟨⟨10, rfl⟩, ⟨⟨11, rfl⟩, trivial⟩⟩⟩⟩⟩⟩⟩⟩⟩⟩⟩⟩ [1, 0, 2, 3, 4] rfl (by decide)), hs168.nil, hs168.cap, hs167.nil, hs167.cap⟩
  ·
   refine op_new (vs := [.bool false, .slice none 0 0, .slice none 0 0]) (t := 25) hA hS 2 rfl rfl rfl rfl (fun g => .pointer (some ⟨g, 0, none⟩)) (does_alloc (z := .agg #[.bool false, .slice none 0 0, .slice none 0 0]) (by kernel_rfl) rfl) rfl ?_
   intro g175 w176 hS
   refine ⟨(hS.partD (.cons _ (.cons _ (.cons_cons _ (.cons_cons _ (.cons_cons _ .slnil))))) 0 rfl (.refl _)), ?_⟩
   intro a hA
   refine any_one (by kernel_rfl) (op_call hA 0 rfl rfl rfl rfl (enters_func  rfl rfl (fun w => by kernel_rfl)) (rzero_any _) ?_)
   rintro _ w181 ⟨f177_1, f177_c1, f177_2, f177_c2, rfl, hs178, hs179, hb180⟩
   replace hS := hS.call hb180
   replace hS := hS.addR hs178.rd
   replace hS := hS.addR hs179.rd
   refine ⟨_, rfl, (hS.partD (.cons _ (.cons _ (.cons_cons _ (.cons_cons _ (.cons_cons _ .slnil))))) 2 rfl (.refl _)), ?_⟩
   intro a hA
   refine any_one (by kernel_rfl) (op_store (us := [.bool false, .slice f177_1 0 f177_c1, .slice f177_2 1 f177_c2]) hA hS 4 rfl rfl rfl (sets_store rfl rfl rfl (by kernel_rfl) hS 0 rfl rfl rfl) 0 rfl rfl rfl rfl ?_)
   intro w182 hS
   refine ⟨(hS.partD (.cons _ (.cons _ (.cons_cons _ (.cons_cons _ (.cons_cons _ .slnil))))) 2 rfl (.refl _)), ?_⟩
   refine any_one (by kernel_rfl) (op_store (us := [.bool false, .slice ro15 ((words (2 ^ (8 * n))).length) rc16, .slice (some ⟨g20, 0, none⟩) 1 1]) hA hS 5 rfl rfl rfl (sets_store rfl rfl rfl (by kernel_rfl) hS 1 rfl rfl rfl) 1 rfl rfl rfl rfl ?_)
   intro w183 hS
   refine ⟨(hS.partD (.cons _ (.cons _ (.cons_cons _ (.cons_cons _ (.cons_cons _ .slnil))))) 2 rfl (.refl _)), ?_⟩
   refine any_end (by kernel_rfl) ?_
   refine hJ60 _ _ ⟨g175, g164, f177_1, f177_c1, f177_2, f177_c2, hA.keep _ ⟨rfl, rfl, rfl, rfl, rfl, rfl, rfl, rfl, rfl, rfl, rfl, rfl, rfl, rfl, rfl, rfl, rfl, rfl, rfl, rfl, rfl, rfl, rfl, rfl, rfl, rfl, rfl, rfl, rfl, rfl, trivial⟩, (St.pickRL hS ⟨⟨0, rfl⟩, ⟨⟨1, rfl⟩, ⟨⟨2, rfl⟩, ⟨⟨3, rfl⟩, ⟨⟨4, rfl⟩, ⟨⟨5, rfl⟩, ⟨⟨6, rfl⟩, ⟨⟨7, rfl⟩, ⟨⟨8, rfl⟩, ⟨⟨9, rfl⟩, ⟨⟨10, rfl⟩, ⟨⟨11, rfl⟩, trivial⟩⟩⟩⟩⟩⟩⟩⟩⟩⟩⟩⟩ [1, 0, 2, 3, 4] rfl (by decide)), hs179.nil, hs179.cap, hs178.nil, hs178.cap⟩
theorem rone_large_false_true {w : World} {x n : Nat} {a1 a2 a3 a4 : Option Addr} {ac1 ac2 ac3 ac4 : Nat} (ha : Nm w (Q6.whole false x) a1 ac1 a2 ac2 a3 ac3 a4 ac4) (hx : (words x).length ≤ 512) (h1 : 1 ≤ n) (h64 : n ≤ 64) (bg : Bool) (hbx : false.toNat ≤ x) (hlg : oI (sgn false x + sgn false (2 ^ (8 * n - 1))) < 0 ∨ 0 ≤ oI (sgn false x + sgn true (2 ^ (8 * n - 1)))) : Calls Tryz.prog 21 #[.int .i64 ((n : Nat) : Int), .bool bg, .bool true, numV (Q6.whole false x) a1 ac1 a2 ac2 a3 ac3 a4 ac4] w fun e w' => e = .returned (.tuple #[.slice none 0 0, .int .i64 4]) ∧ Below w.heap.size w w' := by
 refine Calls.mono (rone_false_true ha hx h1 h64 bg hbx) ?_
 rintro e w' (h | ⟨h, _⟩)
 ·
  exact h.2
 ·
  exact (hlg.elim h.1 h.2).elim
theorem rone_ok_false_true {w : World} {x n : Nat} {a1 a2 a3 a4 : Option Addr} {ac1 ac2 ac3 ac4 : Nat} (ha : Nm w (Q6.whole false x) a1 ac1 a2 ac2 a3 ac3 a4 ac4) (hx : (words x).length ≤ 512) (h1 : 1 ≤ n) (h64 : n ≤ 64) (bg : Bool) (hbx : false.toNat ≤ x) (h9 : ¬ oI (sgn false x + sgn false (2 ^ (8 * n - 1))) < 0 ∧ ¬ 0 ≤ oI (sgn false x + sgn true (2 ^ (8 * n - 1)))) : Calls Tryz.prog 21 #[.int .i64 ((n : Nat) : Int), .bool bg, .bool true, numV (Q6.whole false x) a1 ac1 a2 ac2 a3 ac3 a4 ac4] w fun e w' => ∃ g, e = .returned (.tuple #[.slice (some ⟨g, 0, none⟩) n n, .int .i64 0]) ∧ G.Mg w w' [.row G.BY 1 (.slice (some ⟨g, 0, none⟩) n n) n (Lib.byteCells (G.lowB bg (G.leB n x)))] := by
 refine Calls.mono (rone_false_true ha hx h1 h64 bg hbx) ?_
 rintro e w' (⟨h, _⟩ | h)
 ·
  exact (h.elim h9.1 h9.2).elim
 ·
  exact h.2
set_option maxHeartbeats 1000000 in
theorem rone_true_true {w : World} {x n : Nat} {a1 a2 a3 a4 : Option Addr} {ac1 ac2 ac3 ac4 : Nat} (ha : Nm w (Q6.whole true x) a1 ac1 a2 ac2 a3 ac3 a4 ac4) (hx : (words x).length ≤ 512) (h1 : 1 ≤ n) (h64 : n ≤ 64) (bg : Bool) (hbx : true.toNat ≤ x) : Calls Tryz.prog 21 #[.int .i64 ((n : Nat) : Int), .bool bg, .bool true, numV (Q6.whole true x) a1 ac1 a2 ac2 a3 ac3 a4 ac4] w fun e w' => ((oI (sgn true x + sgn false (2 ^ (8 * n - 1))) < 0 ∨ 0 ≤ oI (sgn true x + sgn true (2 ^ (8 * n - 1)))) ∧ e = .returned (.tuple #[.slice none 0 0, .int .i64 4]) ∧ Below w.heap.size w w') ∨ ((¬ oI (sgn true x + sgn false (2 ^ (8 * n - 1))) < 0 ∧ ¬ 0 ≤ oI (sgn true x + sgn true (2 ^ (8 * n - 1)))) ∧ ∃ g, e = .returned (.tuple #[.slice (some ⟨g, 0, none⟩) n n, .int .i64 0]) ∧ G.Mg w w' [.row G.BY 1 (.slice (some ⟨g, 0, none⟩) n n) n (Lib.byteCells (G.lowB bg (G.leB n (2 ^ (8 * n) - x))))]) := by
 have hl8 : (words (2 ^ (8 * n))).length ≤ 512 := by rw [pow_8]; exact G.small_words h64 (Nat.le_refl _)
 have hl7 : (words (2 ^ (8 * n - 1))).length ≤ 512 := Nat.le_trans (words_mono (Nat.pow_le_pow_right (by decide) (Nat.sub_le _ _))) hl8
 have hp7 : 2 ^ (8 * n) = 2 * 2 ^ (8 * n - 1) := by rw [← Nat.pow_succ']; congr 1; omega
 have hs : soundQ (Q6.whole true x) = true := soundQ_whole hx hbx
 have hwh : wholeQ (Q6.whole true x) = true := wholeQ_whole hx hbx
 have hbx1 : true.toNat = 1 := rfl
 have hFl : (words (2 ^ (8 * n) - x)).length ≤ 512 := Nat.le_trans (words_mono (Nat.sub_le _ _)) hl8
 have hS : St w w [] [(a4, [1]), (a3, []), (a2, [1]), (a1, words x)] [] := ((((St.start w).addR ha.s1.rd).addR ha.s2.rd).addR ha.s3.rd).addR ha.s4.rd
 refine walk_of (l := [(0, .int .i64 (((n : Nat) : Int))), (1, .bool bg), (2, .bool true), (3, .agg #[.bool true, .slice a1 ((words x).length) ac1, .slice a2 1 ac2, .bool false, .slice a3 0 ac3, .slice a4 1 ac4])]) Tryz.func21 rfl Tryz.ntmps21 rfl rfl ?_
 intro Q hret hnorm hP a hA
 refine wp_seq_k (fun K1 hK1 => ?_)
 refine wp_region_lit ?_
 refine seq_new hA hS rfl rfl rfl (fun g => .pointer (some ⟨g, 0, none⟩)) (does_box rfl rfl) rfl ?_
 intro g2 w3 hS a hA
 refine seq_do hA rfl rfl rfl (does_assign rfl) fun a hA => ?_
 refine seq_do hA rfl rfl rfl (does_assign rfl) fun a hA => ?_
 refine seq_end ?_
 refine hK1 _ _ ?_
 refine wp_seq_k (fun K4 hK4 => ?_)
 refine wp_seq_k (fun K5 hK5 => ?_)
 refine wp_region_lit ?_
 refine seq_do hA rfl rfl rfl (does_loadS hS GvJ_isS_27 rfl 0 rfl (cs := [.bool true, .slice a1 ((words x).length) ac1, .slice a2 1 ac2, .bool false, .slice a3 0 ac3, .slice a4 1 ac4]) rfl rfl) fun a hA => ?_
 refine seq_call hA rfl rfl rfl (enters_func  rfl rfl (fun w => by kernel_rfl)) (rsoundQ_any (show Nm _ _ a1 ac1 a2 ac2 a3 ac3 a4 ac4 from ⟨⟨(hS.rd 3 rfl), ha.s1.nil, ha.s1.cap⟩, ⟨(hS.rd 2 rfl), ha.s2.nil, ha.s2.cap⟩, ⟨(hS.rd 1 rfl), ha.s3.nil, ha.s3.cap⟩, ⟨(hS.rd 0 rfl), ha.s4.nil, ha.s4.cap⟩⟩) (lenQ_whole hx) hs) ?_
 rintro _ w7 ⟨rfl, hb6⟩
 replace hS := hS.call hb6
 refine ⟨_, rfl, ?_⟩
 intro a hA
 refine seq_do (v := .bool false) hA rfl rfl rfl (does_un rfl un_not) fun a hA => ?_
 refine seq_end ?_
 refine hK5 _ _ ?_
 refine wp_cond_false (hA.ev rfl) ?_
 refine wp_skip ?_
 refine hK4 _ _ ?_
 refine wp_seq_k (fun K8 hK8 => ?_)
 refine wp_seq_k (fun K9 hK9 => ?_)
 refine wp_region_lit ?_
 refine seq_do hA rfl rfl rfl (does_loadS hS GvJ_isS_27 rfl 0 rfl (cs := [.bool true, .slice a1 ((words x).length) ac1, .slice a2 1 ac2, .bool false, .slice a3 0 ac3, .slice a4 1 ac4]) rfl rfl) fun a hA => ?_
 refine seq_call hA rfl rfl rfl (enters_func  rfl rfl (fun w => by kernel_rfl)) (rwholeQ_any (q := Q6.whole true x) (show Nm _ _ a1 ac1 a2 ac2 a3 ac3 a4 ac4 from ⟨⟨(hS.rd 3 rfl), ha.s1.nil, ha.s1.cap⟩, ⟨(hS.rd 2 rfl), ha.s2.nil, ha.s2.cap⟩, ⟨(hS.rd 1 rfl), ha.s3.nil, ha.s3.cap⟩, ⟨(hS.rd 0 rfl), ha.s4.nil, ha.s4.cap⟩⟩) (lenQ_whole hx) hwh) ?_
 rintro _ w11 ⟨rfl, hb10⟩
 replace hS := hS.call hb10
 refine ⟨_, rfl, ?_⟩
 intro a hA
 refine seq_do (v := .bool false) hA rfl rfl rfl (does_un rfl un_not) fun a hA => ?_
 refine seq_end ?_
 refine hK9 _ _ ?_
 refine wp_cond_false (hA.ev rfl) ?_
 refine wp_skip ?_
 refine hK8 _ _ ?_
 refine wp_seq_k (fun K12 hK12 => ?_)
 refine wp_region_lit ?_
 refine seq_newU (us := [1]) (t := 57) (m := 1) hA hS rfl rfl rfl (does_buildSlice rfl (by kernel_rfl)) (by simp [Dig]) ?_
 intro g13 w14 hS a hA
 refine seq_do hA rfl rfl rfl (does_move rfl) fun a hA => ?_
 refine seq_do (v := .int .i64 (((8 * n : Nat) : Int))) hA rfl rfl rfl (does_bin rfl rfl (ar_mul ((in_i64 (by omega) (by omega)).trans (by omega)))) fun a hA => ?_
 refine seq_call hA rfl rfl rfl (enters_func  rfl rfl (fun w => by kernel_rfl)) (rup1 _ (hS.rd 0 rfl) (n := 8 * n) (by omega)) ?_
 rintro _ w19 ⟨ro15, rc16, rfl, ho17, hb18⟩
 replace hS := hS.call hb18
 replace hS := hS.addR ho17.rd
 refine ⟨_, rfl, ?_⟩
 intro a hA
 refine seq_newU (us := [1]) (t := 57) (m := 1) hA hS rfl rfl rfl (does_buildSlice rfl (by kernel_rfl)) (by simp [Dig]) ?_
 intro g20 w21 hS a hA
 refine seq_do (v := .agg #[.bool false, .slice ro15 ((words (2 ^ (8 * n))).length) rc16, .slice (some ⟨g20, 0, none⟩) 1 1]) hA rfl rfl rfl (does_build rfl (fun w => by kernel_rfl)) fun a hA => ?_
 refine seq_new (vs := [.bool false, .slice none 0 0, .slice none 0 0]) (t := 25) hA hS rfl rfl rfl (fun g => .pointer (some ⟨g, 0, none⟩)) (does_alloc (z := .agg #[.bool false, .slice none 0 0, .slice none 0 0]) (by kernel_rfl) rfl) rfl ?_
 intro g22 w23 hS a hA
 refine seq_store (us := [.bool false, .slice ro15 ((words (2 ^ (8 * n))).length) rc16, .slice (some ⟨g20, 0, none⟩) 1 1]) hA hS rfl rfl (sets_store rfl rfl rfl (by kernel_rfl) hS 0 rfl rfl rfl) 0 rfl rfl rfl rfl ?_
 intro w24 hS
 refine seq_end ?_
 refine hK12 _ _ ?_
 refine wp_seq_k (fun K25 hK25 => ?_)
 refine wp_region_lit ?_
 refine seq_newU (us := [1]) (t := 57) (m := 1) hA hS rfl rfl rfl (does_buildSlice rfl (by kernel_rfl)) (by simp [Dig]) ?_
 intro g26 w27 hS a hA
 refine seq_do hA rfl rfl rfl (does_move rfl) fun a hA => ?_
 refine seq_do (v := .int .i64 (((8 * n : Nat) : Int))) hA rfl rfl rfl (does_bin rfl rfl (ar_mul ((in_i64 (by omega) (by omega)).trans (by omega)))) fun a hA => ?_
 refine seq_do (v := .int .i64 (((8 * n - 1 : Nat) : Int))) hA rfl rfl rfl (does_bin rfl rfl (fun w => (bin_sub (i64In (by omega) (by omega)) w).trans (by rw [show (((8 * n : Nat) : Int) - 1 : Int) = ((8 * n - 1 : Nat) : Int) from by omega]))) fun a hA => ?_
 refine seq_call hA rfl rfl rfl (enters_func  rfl rfl (fun w => by kernel_rfl)) (rup1 _ (hS.rd 0 rfl) (n := 8 * n - 1) (by omega)) ?_
 rintro _ w32 ⟨ro28, rc29, rfl, ho30, hb31⟩
 replace hS := hS.call hb31
 replace hS := hS.addR ho30.rd
 refine ⟨_, rfl, ?_⟩
 intro a hA
 refine seq_newU (us := [1]) (t := 57) (m := 1) hA hS rfl rfl rfl (does_buildSlice rfl (by kernel_rfl)) (by simp [Dig]) ?_
 intro g33 w34 hS a hA
 refine seq_do (v := .agg #[.bool false, .slice ro28 ((words (2 ^ (8 * n - 1))).length) rc29, .slice (some ⟨g33, 0, none⟩) 1 1]) hA rfl rfl rfl (does_build rfl (fun w => by kernel_rfl)) fun a hA => ?_
 refine seq_new (vs := [.bool false, .slice none 0 0, .slice none 0 0]) (t := 25) hA hS rfl rfl rfl (fun g => .pointer (some ⟨g, 0, none⟩)) (does_alloc (z := .agg #[.bool false, .slice none 0 0, .slice none 0 0]) (by kernel_rfl) rfl) rfl ?_
 intro g35 w36 hS a hA
 refine seq_store (us := [.bool false, .slice ro28 ((words (2 ^ (8 * n - 1))).length) rc29, .slice (some ⟨g33, 0, none⟩) 1 1]) hA hS rfl rfl (sets_store rfl rfl rfl (by kernel_rfl) hS 0 rfl rfl rfl) 0 rfl rfl rfl rfl ?_
 intro w37 hS
 refine seq_end ?_
 refine hK25 _ _ ?_
 refine wp_seq_k (fun K38 hK38 => ?_)
 have hJ60 : ∀ a w1, (∃ (J50g : Nat) (J51g : Nat) (J52 : Option Addr) (J53 : Nat) (J54 : Option Addr) (J55 : Nat), Sl a 101 [(0, .int .i64 (((n : Nat) : Int))), (1, .bool bg), (2, .bool true), (3, .agg #[.bool true, .slice a1 ((words x).length) ac1, .slice a2 1 ac2, .bool false, .slice a3 0 ac3, .slice a4 1 ac4]), (7, .pointer (some ⟨g2, 0, none⟩)), (8, .slice none 0 0), (9, .int .i64 0), (10, .pointer (some ⟨g22, 0, none⟩)), (11, .pointer (some ⟨g35, 0, none⟩)), (12, .pointer (some ⟨J50g, 0, none⟩)), (13, .pointer (some ⟨J51g, 0, none⟩)), (21, .agg #[.bool true, .slice a1 ((words x).length) ac1, .slice a2 1 ac2, .bool false, .slice a3 0 ac3, .slice a4 1 ac4]), (22, .bool true), (23, .bool false), (24, .agg #[.bool true, .slice a1 ((words x).length) ac1, .slice a2 1 ac2, .bool false, .slice a3 0 ac3, .slice a4 1 ac4]), (25, .bool true), (26, .bool false), (27, .slice (some ⟨g13, 0, none⟩) 1 1), (28, .int .i64 (((n : Nat) : Int))), (29, .int .i64 (((8 * n : Nat) : Int))), (30, .slice ro15 ((words (2 ^ (8 * n))).length) rc16), (31, .slice (some ⟨g20, 0, none⟩) 1 1), (32, .agg #[.bool false, .slice ro15 ((words (2 ^ (8 * n))).length) rc16, .slice (some ⟨g20, 0, none⟩) 1 1]), (33, .slice (some ⟨g26, 0, none⟩) 1 1), (34, .int .i64 (((n : Nat) : Int))), (35, .int .i64 (((8 * n : Nat) : Int))), (36, .int .i64 (((8 * n - 1 : Nat) : Int))), (37, .slice ro28 ((words (2 ^ (8 * n - 1))).length) rc29), (38, .slice (some ⟨g33, 0, none⟩) 1 1), (39, .agg #[.bool false, .slice ro28 ((words (2 ^ (8 * n - 1))).length) rc29, .slice (some ⟨g33, 0, none⟩) 1 1])] ∧ St w w1 [(J51g, [.bool false, .slice ro15 ((words (2 ^ (8 * n))).length) rc16, .slice (some ⟨g20, 0, none⟩) 1 1]), (J50g, [.bool false, .slice J52 0 J53, .slice J54 1 J55]), (g35, [.bool false, .slice ro28 ((words (2 ^ (8 * n - 1))).length) rc29, .slice (some ⟨g33, 0, none⟩) 1 1]), (g22, [.bool false, .slice ro15 ((words (2 ^ (8 * n))).length) rc16, .slice (some ⟨g20, 0, none⟩) 1 1]), (g2, [.bool true, .slice a1 ((words x).length) ac1, .slice a2 1 ac2, .bool false, .slice a3 0 ac3, .slice a4 1 ac4])] [(J54, [1]), (J52, []), (some ⟨g33, 0, none⟩, [1]), (ro28, words (2 ^ (8 * n - 1))), (some ⟨g26, 0, none⟩, [1]), (some ⟨g20, 0, none⟩, [1]), (ro15, words (2 ^ (8 * n))), (some ⟨g13, 0, none⟩, [1]), (a4, [1]), (a3, []), (a2, [1]), (a1, words x)] [] ∧ (J54 = none → J55 = 0) ∧ ([1] : List Nat).length ≤ J55 ∧ (J52 = none → J53 = 0) ∧ ([] : List Nat).length ≤ J53) → K38 a w1 := by
  clear hA hS
  rintro a w61 ⟨J50g, J51g, J52, J53, J54, J55, hA, hS, hn56, hc57, hn58, hc59⟩
  refine hK38 _ _ ?_
  refine wp_seq_k (fun K62 hK62 => ?_)
  refine wp_seq_k (fun K63 hK63 => ?_)
  refine wp_region_lit ?_
  refine seq_do hA rfl rfl rfl (does_move rfl) fun a hA => ?_
  refine seq_end ?_
  refine hK63 _ _ ?_
  refine wp_cond_true (hA.ev rfl) ?_
  refine wp_draw (S := fun w1 => St w w1 [(g35, [.bool false, .slice ro28 ((words (2 ^ (8 * n - 1))).length) rc29, .slice (some ⟨g33, 0, none⟩) 1 1]), (g22, [.bool false, .slice ro15 ((words (2 ^ (8 * n))).length) rc16, .slice (some ⟨g20, 0, none⟩) 1 1]), (g2, [.bool true, .slice a1 ((words x).length) ac1, .slice a2 1 ac2, .bool false, .slice a3 0 ac3, .slice a4 1 ac4])] [(J54, [1]), (J52, []), (some ⟨g33, 0, none⟩, [1]), (ro28, words (2 ^ (8 * n - 1))), (some ⟨g26, 0, none⟩, [1]), (some ⟨g20, 0, none⟩, [1]), (ro15, words (2 ^ (8 * n))), (some ⟨g13, 0, none⟩, [1]), (a4, [1]), (a3, []), (a2, [1]), (a1, words x)] []) (by kernel_rfl) ?_
  replace hS := hS.drew
  refine any_tk hA 0 rfl rfl rfl rfl hP (hS.partD (.cons _ (.cons _ (.cons_cons _ (.cons_cons _ (.cons_cons _ .slnil))))) 0 rfl (.refl _)) (fun w1 hS => does_loadS hS GvJ_isS_25 rfl 0 rfl (cs := [.bool false, .slice ro28 ((words (2 ^ (8 * n - 1))).length) rc29, .slice (some ⟨g33, 0, none⟩) 1 1]) rfl rfl) fun a hA => ?_
  refine any_tk hA 2 rfl rfl rfl rfl hP (hS.partD (.cons _ (.cons _ (.cons_cons _ (.cons_cons _ (.cons_cons _ .slnil))))) 0 rfl (.refl _)) (fun w1 hS => does_loadS hS GvJ_isS_25 rfl 0 rfl (cs := [.bool false, .slice ro28 ((words (2 ^ (8 * n - 1))).length) rc29, .slice (some ⟨g33, 0, none⟩) 1 1]) rfl rfl) fun a hA => ?_
  refine any_one (by kernel_rfl) (op_call hA 1 rfl rfl rfl rfl (enters_func  rfl rfl (fun w => by kernel_rfl)) (rminus_any (r := true) (by rw [decide_eq_true (words_len_pos.2 (Nat.pos_iff_ne_zero.1 (Nat.two_pow_pos _)))]; rfl)) ?_)
  rintro _ w65 ⟨rfl, hb64⟩
  replace hS := hS.call hb64
  refine ⟨_, rfl, (hS.partD (.cons _ (.cons _ (.cons_cons _ (.cons_cons _ (.cons_cons _ .slnil))))) 0 rfl (.refl _)), ?_⟩
  intro a hA
  refine any_one (by kernel_rfl) (op_store (us := [.bool true, .slice ro28 ((words (2 ^ (8 * n - 1))).length) rc29, .slice (some ⟨g33, 0, none⟩) 1 1]) hA hS 3 rfl rfl rfl (sets_store rfl rfl rfl (by kernel_rfl) hS 1 rfl rfl rfl) 1 rfl rfl rfl rfl ?_)
  intro w66 hS
  refine ⟨(hS.partD (.cons _ (.cons _ (.cons_cons _ (.cons_cons _ (.cons_cons _ .slnil))))) 0 rfl (.refl _)), ?_⟩
  refine any_one (by kernel_rfl) (op_store (us := [.bool false, .slice ro28 ((words (2 ^ (8 * n - 1))).length) rc29, .slice (some ⟨g33, 0, none⟩) 1 1]) hA hS 4 rfl rfl rfl (sets_store rfl rfl rfl (by kernel_rfl) hS 0 rfl rfl rfl) 0 rfl rfl rfl rfl ?_)
  intro w67 hS
  refine ⟨(hS.partD (.cons _ (.cons _ (.cons_cons _ (.cons_cons _ (.cons_cons _ .slnil))))) 0 rfl (.refl _)), ?_⟩
  refine any_end (by kernel_rfl) ?_
  refine hK62 _ _ ?_
  refine wp_seq_k (fun K68 hK68 => ?_)
  refine wp_seq_k (fun K69 hK69 => ?_)
  refine wp_region_lit ?_
  refine seq_do (v := .pointer (some ⟨g2, 0, none⟩)) hA rfl rfl rfl (does_field GvJ_fld_27_0 rfl rfl) fun a hA => ?_
  refine seq_do hA rfl rfl rfl (does_loadS hS GvJ_isS_25 rfl 4 rfl (cs := [.bool true, .slice a1 ((words x).length) ac1, .slice a2 1 ac2]) rfl rfl) fun a hA => ?_
  refine seq_do hA rfl rfl rfl (does_loadS hS GvJ_isS_25 rfl 1 rfl (cs := [.bool true, .slice ro28 ((words (2 ^ (8 * n - 1))).length) rc29, .slice (some ⟨g33, 0, none⟩) 1 1]) rfl rfl) fun a hA => ?_
  refine seq_call hA rfl rfl rfl (enters_func  rfl rfl (fun w => by kernel_rfl)) (rorderW (b1 := true) (b2 := true) (b3 := false) (x := x) (y := 2 ^ (8 * n - 1)) ⟨(hS.rd 11 rfl), ha.s1.nil, ha.s1.cap⟩ ⟨(hS.rd 10 rfl), ha.s2.nil, ha.s2.cap⟩ ⟨(hS.rd 3 rfl), ho30.nocap, ho30.caps⟩ ⟨(hS.rd 2 rfl), (fun h => by cases h), (Nat.le_refl _)⟩ rfl rfl hx hl7 rfl rfl) ?_
  rintro _ w71 ⟨rfl, hb70⟩
  replace hS := hS.call hb70
  refine ⟨_, rfl, ?_⟩
  intro a hA
  rcases Bool.eq_false_or_eq_true (decide (oI (sgn true x + sgn false (2 ^ (8 * n - 1))) < 0)) with hb72 | hb72
  ·
   have hb72' := of_decide_eq_true hb72
   refine seq_do (v := .bool true) hA rfl rfl rfl (does_bin rfl rfl (fun w => (bin_lss w).trans (by rw [hb72]))) fun a hA => ?_
   refine seq_do hA rfl rfl rfl (does_move rfl) fun a hA => ?_
   refine seq_skip hA rfl rfl rfl fun a hA => ?_
   refine seq_skip hA rfl rfl rfl fun a hA => ?_
   refine seq_skip hA rfl rfl rfl fun a hA => ?_
   refine seq_skip hA rfl rfl rfl fun a hA => ?_
   refine seq_skip hA rfl rfl rfl fun a hA => ?_
   refine seq_do (v := .bool true) hA rfl rfl rfl (does_pick rfl rfl rfl rfl) fun a hA => ?_
   refine seq_end ?_
   refine hK69 _ _ ?_
   refine wp_cond_true (hA.ev rfl) ?_
   refine wp_seq_k (fun K73 hK73 => ?_)
   refine wp_region_lit ?_
   refine seq_do hA rfl rfl rfl (does_assign rfl) fun a hA => ?_
   refine seq_do hA rfl rfl rfl (does_assign rfl) fun a hA => ?_
   refine seq_end ?_
   refine hK73 _ _ ?_
   refine wp_ret ?_
   refine hret _ _ ?_
   refine ends (v := .tuple #[.slice none 0 0, .int .i64 4]) hA rfl (.cons (res_tmp rfl) (.cons (res_tmp rfl) .nil)) rfl ?_
   exact .inl ⟨.inl hb72', rfl, hS.bel⟩
  ·
   have hb72' := of_decide_eq_false hb72
   refine seq_do (v := .bool false) hA rfl rfl rfl (does_bin rfl rfl (fun w => (bin_lss w).trans (by rw [hb72]))) fun a hA => ?_
   refine seq_do hA rfl rfl rfl (does_move rfl) fun a hA => ?_
   refine seq_do (v := .pointer (some ⟨g2, 0, none⟩)) hA rfl rfl rfl (does_field GvJ_fld_27_0 rfl rfl) fun a hA => ?_
   refine seq_do hA rfl rfl rfl (does_loadS hS GvJ_isS_25 rfl 4 rfl (cs := [.bool true, .slice a1 ((words x).length) ac1, .slice a2 1 ac2]) rfl rfl) fun a hA => ?_
   refine seq_do hA rfl rfl rfl (does_loadS hS GvJ_isS_25 rfl 0 rfl (cs := [.bool false, .slice ro28 ((words (2 ^ (8 * n - 1))).length) rc29, .slice (some ⟨g33, 0, none⟩) 1 1]) rfl rfl) fun a hA => ?_
   refine seq_call hA rfl rfl rfl (enters_func  rfl rfl (fun w => by kernel_rfl)) (rorderW (b1 := true) (b2 := false) (b3 := true) (x := x) (y := 2 ^ (8 * n - 1)) ⟨(hS.rd 11 rfl), ha.s1.nil, ha.s1.cap⟩ ⟨(hS.rd 10 rfl), ha.s2.nil, ha.s2.cap⟩ ⟨(hS.rd 3 rfl), ho30.nocap, ho30.caps⟩ ⟨(hS.rd 2 rfl), (fun h => by cases h), (Nat.le_refl _)⟩ rfl rfl hx hl7 (by rw [decide_eq_true (words_len_pos.2 (Nat.pos_iff_ne_zero.1 (Nat.two_pow_pos _)))]; rfl) rfl) ?_
   rintro _ w75 ⟨rfl, hb74⟩
   replace hS := hS.call hb74
   refine ⟨_, rfl, ?_⟩
   intro a hA
   rcases Bool.eq_false_or_eq_true (decide (0 ≤ oI (sgn true x + sgn true (2 ^ (8 * n - 1))))) with hb76 | hb76
   ·
    have hb76' := of_decide_eq_true hb76
    refine seq_do (v := .bool true) hA rfl rfl rfl (does_bin rfl rfl (fun w => (bin_geq w).trans (by rw [hb76]))) fun a hA => ?_
    refine seq_do (v := .bool true) hA rfl rfl rfl (does_pick rfl rfl rfl rfl) fun a hA => ?_
    refine seq_end ?_
    refine hK69 _ _ ?_
    refine wp_cond_true (hA.ev rfl) ?_
    refine wp_seq_k (fun K77 hK77 => ?_)
    refine wp_region_lit ?_
    refine seq_do hA rfl rfl rfl (does_assign rfl) fun a hA => ?_
    refine seq_do hA rfl rfl rfl (does_assign rfl) fun a hA => ?_
    refine seq_end ?_
    refine hK77 _ _ ?_
    refine wp_ret ?_
    refine hret _ _ ?_
    refine ends (v := .tuple #[.slice none 0 0, .int .i64 4]) hA rfl (.cons (res_tmp rfl) (.cons (res_tmp rfl) .nil)) rfl ?_
    exact .inl ⟨.inr hb76', rfl, hS.bel⟩
   ·
    have hb76' := of_decide_eq_false hb76
    refine seq_do (v := .bool false) hA rfl rfl rfl (does_bin rfl rfl (fun w => (bin_geq w).trans (by rw [hb76]))) fun a hA => ?_
    refine seq_do (v := .bool false) hA rfl rfl rfl (does_pick rfl rfl rfl rfl) fun a hA => ?_
    refine seq_end ?_
    refine hK69 _ _ ?_
    refine wp_cond_false (hA.ev rfl) ?_
    refine wp_skip ?_
    refine hK68 _ _ ?_
    refine wp_seq_k (fun K78 hK78 => ?_)
    refine wp_region_lit ?_
    refine seq_do (v := .pointer (some ⟨g2, 0, none⟩)) hA rfl rfl rfl (does_field GvJ_fld_27_0 rfl rfl) fun a hA => ?_
    refine seq_do hA rfl rfl rfl (does_loadS hS GvJ_isS_25 rfl 4 rfl (cs := [.bool true, .slice a1 ((words x).length) ac1, .slice a2 1 ac2]) rfl rfl) fun a hA => ?_
    refine seq_new (vs := [.bool false, .slice none 0 0, .slice none 0 0]) (t := 25) hA hS rfl rfl rfl (fun g => .pointer (some ⟨g, 0, none⟩)) (does_alloc (z := .agg #[.bool false, .slice none 0 0, .slice none 0 0]) (by kernel_rfl) rfl) rfl ?_
    intro g79 w80 hS a hA
    refine seq_store (us := [.bool true, .slice a1 ((words x).length) ac1, .slice a2 1 ac2]) hA hS rfl rfl (sets_store rfl rfl rfl (by kernel_rfl) hS 0 rfl rfl rfl) 0 rfl rfl rfl rfl ?_
    intro w81 hS
    refine seq_end ?_
    refine hK78 _ _ ?_
    refine wp_seq_k (fun K82 hK82 => ?_)
    refine wp_seq_k (fun K83 hK83 => ?_)
    refine wp_region_lit ?_
    refine seq_do (v := .pointer (some ⟨g79, 0, none⟩)) hA rfl rfl rfl (does_field GvJ_fld_25_0 rfl rfl) fun a hA => ?_
    refine seq_do hA rfl rfl rfl (does_load1 hS GvJ_is1_4 rfl 0 rfl rfl) fun a hA => ?_
    refine seq_end ?_
    refine hK83 _ _ ?_
    refine wp_cond_true (hA.ev rfl) ?_
    refine wp_region_lit ?_
    refine seq_do hA rfl rfl rfl (does_loadS hS GvJ_isS_25 rfl 0 rfl (cs := [.bool true, .slice a1 ((words x).length) ac1, .slice a2 1 ac2]) rfl rfl) fun a hA => ?_
    refine seq_do hA rfl rfl rfl (does_loadS hS GvJ_isS_25 rfl 4 rfl (cs := [.bool false, .slice ro15 ((words (2 ^ (8 * n))).length) rc16, .slice (some ⟨g20, 0, none⟩) 1 1]) rfl rfl) fun a hA => ?_
    refine seq_call hA rfl rfl rfl (enters_func  rfl rfl (fun w => by kernel_rfl)) (rsumP (x := x) (y := 2 ^ (8 * n)) ⟨(hS.rd 11 rfl), ha.s1.nil, ha.s1.cap⟩ ⟨(hS.rd 10 rfl), ha.s2.nil, ha.s2.cap⟩ ⟨(hS.rd 6 rfl), ho17.nocap, ho17.caps⟩ ⟨(hS.rd 5 rfl), (fun h => by cases h), (Nat.le_refl _)⟩ hx hl8 (by have k8 : ¬ (-((x : Nat) : Int) + ((2 ^ (8 * n - 1) : Nat) : Int) < 0) := fun k7 => hb72' (oI_lt.2 k7); omega)) ?_
    rintro _ w88 ⟨f84_1, f84_c1, f84_2, f84_c2, rfl, hs85, hs86, hb87⟩
    replace hS := hS.call hb87
    replace hS := hS.addR hs85.rd
    replace hS := hS.addR hs86.rd
    refine ⟨_, rfl, ?_⟩
    intro a hA
    refine seq_store (us := [.bool false, .slice f84_1 ((words (2 ^ (8 * n) - x)).length) f84_c1, .slice f84_2 1 f84_c2]) hA hS rfl rfl (sets_store rfl rfl rfl (by kernel_rfl) hS 0 rfl rfl rfl) 0 rfl rfl rfl rfl ?_
    intro w89 hS
    refine seq_end ?_
    refine hK82 _ _ ?_
    refine wp_seq_k (fun K90 hK90 => ?_)
    refine wp_region_lit ?_
    refine seq_do hA rfl rfl rfl (does_move rfl) fun a hA => ?_
    have hL0 : Sc w89 f84_1 f84_c1 (words (2 ^ (8 * n) - x)) := ⟨(hS.rd 1 rfl), hs85.nil, hs85.cap⟩
    have hW : Below w.heap.size w w89 := hS.bel
    have hF14 : Blk w89 g79 [.bool false, .slice f84_1 ((words (2 ^ (8 * n) - x)).length) f84_c1, .slice f84_2 1 f84_c2] := (hS.own (g79, [.bool false, .slice f84_1 ((words (2 ^ (8 * n) - x)).length) f84_c1, .slice f84_2 1 f84_c2]) (by simp)).2
    clear hS
    have hM : G.Mg w89 w89 [] := G.Mg.start w89
    refine G.s_makeN (z := .int .u8 0) (sz := 1) (by_ := 1) (m := n) (toG hA) hM Tryz.underlying22 (by kernel_rfl) rfl rfl rfl rfl rfl rfl (by omega) (by omega) (.inr (G.noBld_quiet G.quietL_nil)) ?_
    intro gx w91 hM hC a hA
    replace hA := ofG hA
    rw [lowI_made bg n (2 ^ (8 * n) - x)] at hM
    replace hL0 := G.sc_carry hL0 hC
    have hS : St w89 w91 [] [] [] := St.bare hM.bel
    refine seq_do hA rfl rfl rfl (does_assign rfl) fun a hA => ?_
    refine seq_end ?_
    refine hK90 _ _ ?_
    refine wp_seq_k (fun K92 hK92 => ?_)
    refine wp_region_lit ?_
    refine seq_do (v := .pointer (some ⟨g79, 1, none⟩)) hA rfl rfl rfl (does_field GvJ_fld_25_1 rfl rfl) fun a hA => ?_
    refine seq_do (v := .slice f84_1 ((words (2 ^ (8 * n) - x)).length) f84_c1) hA rfl rfl rfl (does_load1F hS hF14 GvJ_is1_23 rfl rfl) fun a hA => ?_
    refine seq_do hA rfl rfl rfl (does_assign rfl) fun a hA => ?_
    refine seq_end ?_
    refine hK92 _ _ ?_
    refine wp_seq_k (fun K93 hK93 => ?_)
    refine wp_seq_k (fun K94 hK94 => ?_)
    refine wp_region_lit ?_
    refine seq_do hA rfl rfl rfl (does_assign rfl) fun a hA => ?_
    refine seq_end ?_
    refine hK94 _ _ ?_
    refine wp_block ?_
    refine wp_loop_n (fun m a w1 => ∃ (k : Nat) (V : Nat) (lo : Option Addr) (lc : Nat), m = 1 + (n - k) ∧ (k ≤ n ∧ V = (2 ^ (8 * n) - x) / 256 ^ k ∧ Sc w1 lo lc (words V) ∧ G.Mg w89 w1 [.row G.BY 1 (.slice (some ⟨gx, 0, none⟩) n n) n (Lib.byteCells (G.lowB bg (G.lbI n (2 ^ (8 * n) - x) k)))]) ∧ Sl a 101 [(0, .int .i64 (((n : Nat) : Int))), (1, .bool bg), (8, .slice none 0 0), (9, .int .i64 0), (15, .slice (some ⟨gx, 0, none⟩) n n), (16, .slice lo ((words V).length) lc), (17, .int .i64 (((k : Nat) : Int)))] ∧ St w89 w1 [] [] []) _ ⟨0, (2 ^ (8 * n) - x), f84_1, f84_c1, rfl, ⟨Nat.zero_le _, (by rw [Nat.pow_zero, Nat.div_one]), hL0, hM⟩, hA.keep _ ⟨rfl, rfl, rfl, rfl, rfl, rfl, rfl, trivial⟩, hS⟩ ?_
    clear hS hA
    rintro m a w95 ⟨k, V, lo, lc, rfl, hinv97, hA, hS⟩ K96 hK96
    obtain ⟨hk9, hV, hL, hM⟩ := hinv97
    have hVl : (words V).length ≤ 512 := Nat.le_trans (words_mono (by rw [hV]; exact Nat.div_le_self _ _)) hFl
    refine wp_seq_k (fun K98 hK98 => ?_)
    refine wp_seq_k (fun K99 hK99 => ?_)
    refine wp_region_lit ?_
    refine seq_do hA rfl rfl rfl (does_move rfl) fun a hA => ?_
    refine seq_do hA rfl rfl rfl (does_move rfl) fun a hA => ?_
    rcases Bool.eq_false_or_eq_true (decide (((k : Nat) : Int) < ((n : Nat) : Int))) with hb100 | hb100
    ·
     have hb100' := of_decide_eq_true hb100
     refine seq_do (v := .bool true) hA rfl rfl rfl (does_bin rfl rfl (fun w => (bin_lss w).trans (by rw [hb100]))) fun a hA => ?_
     refine seq_end ?_
     refine hK99 _ _ ?_
     refine wp_cond_true (hA.ev rfl) ?_
     refine wp_skip ?_
     refine hK98 _ _ ?_
     refine wp_seq_k (fun K101 hK101 => ?_)
     refine wp_block ?_
     refine wp_seq_k (fun K102 hK102 => ?_)
     refine wp_region_lit ?_
     refine seq_do hA rfl rfl rfl (does_move rfl) fun a hA => ?_
     refine seq_newB (us := [256]) (t := 57) (m := 1) hA hS rfl rfl rfl (does_buildSlice rfl (by kernel_rfl)) (by simp [Dig]) ?_
     intro g103 w104 hS hB105 a hA
     replace hM := hM.call hB105
     replace hL : Sc w104 lo lc (words V) := G.sc_carry hL (fun _ _ r => r.below hB105)
     refine seq_call hA rfl rfl rfl (enters_func  rfl rfl (fun w => by kernel_rfl)) (rover256 (x := V) _ _ (hL.rd.below (Below.refl _ _)) (hS.rd 0 rfl) hVl) ?_
     rintro _ w113 ⟨qo106, qc107, ro108, rc109, rfl, hq110, hr111, hb112⟩
     replace hS := hS.call hb112
     replace hS := hS.addR hq110.rd
     replace hS := hS.addR hr111.rd
     refine ⟨_, rfl, ?_⟩
     intro a hA
     replace hM := hM.call hb112
     refine seq_do hA rfl rfl rfl (does_move rfl) fun a hA => ?_
     refine seq_do (v := .slice qo106 ((words (V / 256)).length) qc107) hA rfl rfl rfl (does_extract (vs := [.slice qo106 ((words (V / 256)).length) qc107, .slice ro108 ((words (V % 256)).length) rc109]) rfl rfl) fun a hA => ?_
     refine seq_do (v := .slice ro108 ((words (V % 256)).length) rc109) hA rfl rfl rfl (does_extract (vs := [.slice qo106 ((words (V / 256)).length) qc107, .slice ro108 ((words (V % 256)).length) rc109]) rfl rfl) fun a hA => ?_
     refine seq_do hA rfl rfl rfl (does_assign rfl) fun a hA => ?_
     refine seq_do hA rfl rfl rfl (does_assign rfl) fun a hA => ?_
     refine seq_end ?_
     refine hK102 _ _ ?_
     refine wp_seq_k (fun K114 hK114 => ?_)
     refine wp_region_lit ?_
     refine seq_do hA rfl rfl rfl (does_assign rfl) fun a hA => ?_
     refine seq_end ?_
     refine hK114 _ _ ?_
     refine wp_seq_k (fun K115 hK115 => ?_)
     refine wp_seq_k (fun K116 hK116 => ?_)
     refine wp_region_lit ?_
     refine seq_do hA rfl rfl rfl (does_move rfl) fun a hA => ?_
     refine seq_do (v := .int .i64 ((((words (V % 256)).length : Nat) : Int))) hA rfl rfl rfl (does_len Tryz.underlying23 rfl) fun a hA => ?_
     rcases Bool.eq_false_or_eq_true (decide (0 < (((words (V % 256)).length : Nat) : Int))) with hb117 | hb117
     ·
      have hb117' := of_decide_eq_true hb117
      refine seq_do (v := .bool true) hA rfl rfl rfl (does_bin rfl rfl (fun w => (bin_gtr w).trans (by rw [hb117]))) fun a hA => ?_
      refine seq_end ?_
      refine hK116 _ _ ?_
      refine wp_cond_true (hA.ev rfl) ?_
      refine wp_region_lit ?_
      refine seq_do hA rfl rfl rfl (does_move rfl) fun a hA => ?_
      have hi121 : 0 < (words (V % 256)).length := by first | omega | (simp only [List.length_set]; omega)
      obtain ⟨b118, f119, hso120⟩ := Rd.addr (hS.rd 0 rfl) hi121
      refine seq_do (v := .pointer (some ⟨b118, f119 + 0, none⟩)) hA rfl rfl rfl (does_indexRow (k := 0) Tryz.underlying23 (by kernel_rfl) rfl rfl (by omega) hso120 hi121) fun a hA => ?_
      refine seq_do (v := .int .u32 ((((words (V % 256)).getD 0 0 : Nat) : Int))) hA rfl rfl rfl (does_loadRow (hS.rd 0 rfl) hso120 hi121 GvJ_is1_57 rfl) fun a hA => ?_
      refine seq_do (v := .int .u8 (((V % 256 : Nat) : Int))) hA rfl rfl rfl (does_convert rfl (ar_conv Tryz.underlying57 Tryz.underlying5 (conv0 V))) fun a hA => ?_
      refine seq_do hA rfl rfl rfl (does_assign rfl) fun a hA => ?_
      refine seq_end ?_
      refine hK115 _ _ ?_
      refine wp_seq_k (fun K122 hK122 => ?_)
      refine wp_seq_k (fun K123 hK123 => ?_)
      refine wp_region_lit ?_
      refine seq_do hA rfl rfl rfl (does_move rfl) fun a hA => ?_
      refine seq_end ?_
      refine hK123 _ _ ?_
      refine wp_cond_split (t := bg) (hA.ev rfl) (fun hc124 => ?_) (fun hc124 => ?_)
      ·
       refine wp_region_lit ?_
       refine seq_do hA rfl rfl rfl (does_move rfl) fun a hA => ?_
       refine seq_do hA rfl rfl rfl (does_move rfl) fun a hA => ?_
       refine seq_do (v := .int .i64 (((n - 1 : Nat) : Int))) hA rfl rfl rfl (does_bin rfl rfl (fun w => (bin_sub (i64In (by omega) (by omega)) w).trans (by rw [show (((n : Nat) : Int) - 1 : Int) = ((n - 1 : Nat) : Int) from by omega]))) fun a hA => ?_
       refine seq_do hA rfl rfl rfl (does_move rfl) fun a hA => ?_
       refine seq_do (v := .int .i64 ((((n - 1) - k : Nat) : Int))) hA rfl rfl rfl (does_bin rfl rfl (fun w => (bin_sub (i64In (by omega) (by omega)) w).trans (by rw [show (((n - 1 : Nat) : Int) - ((k : Nat) : Int) : Int) = (((n - 1) - k : Nat) : Int) from by omega]))) fun a hA => ?_
       refine seq_do hA rfl rfl rfl (does_move rfl) fun a hA => ?_
       refine seq_do (v := .pointer (some ⟨gx, ((n - 1) - k) * 1, none⟩)) hA rfl rfl rfl (does_ixZ (k := (n - 1) - k) Tryz.underlying22 (by kernel_rfl) rfl rfl rfl (by omega)) fun a hA => ?_
       have hq9 : Sc w113 qo106 qc107 (words (V / 256)) := ⟨(hS.rd 1 rfl), hq110.nocap, hq110.caps⟩
       refine G.s_storeEN (c := .int .u8 (((V % 256 : Nat) : Int))) (q := ((n - 1) - k) * 1) (toG hA) hM rfl rfl (G.m_storeE rfl rfl rfl (by kernel_rfl) hM 0 rfl (show ((n - 1) - k) * 1 + 1 ≤ n * 1 by omega) rfl) 0 rfl (G.cells_get (l := G.lowB bg (G.lbI n (2 ^ (8 * n) - x) k)) (i := (n - 1) - k) (by rw [G.low_len, G.lbI_len]; omega)) rfl rfl ?_
       intro w125 hM hC9
       replace hq9 := G.sc_carry hq9 hC9
       replace hM : G.Mg w89 w125 [.row G.BY 1 (.slice (some ⟨gx, 0, none⟩) n n) n (Lib.byteCells (G.lowB bg (G.lbI n (2 ^ (8 * n) - x) (k + 1))))] := by
        have h9 := lowI_step (bg := bg) (n := n) (F := (2 ^ (8 * n) - x)) (k := k) (V := V) (i := (n - 1) - k) (c := ((V % 256 : Nat) : Int)) (by omega) hV (by rw [hc124]; rfl) rfl
        rw [← h9]
        exact hM
       replace hS : St w89 w125 [] [] [] := St.bare hM.bel
       refine seq_end ?_
       refine hK122 _ _ ?_
       refine wp_region_lit ?_
       refine seq_do hA rfl rfl rfl (does_move rfl) fun a hA => ?_
       refine seq_do hA rfl rfl rfl (does_assign rfl) fun a hA => ?_
       refine seq_end ?_
       refine hK101 _ _ ?_
       refine wp_region_lit ?_
       refine seq_do hA rfl rfl rfl (does_move rfl) fun a hA => ?_
       refine seq_do (v := .int .i64 (((k + 1 : Nat) : Int))) hA rfl rfl rfl (does_bin rfl rfl (fun w => (bin_add (i64In (by omega) (by omega)) w).trans (by rw [show (((k : Nat) : Int) + 1 : Int) = ((k + 1 : Nat) : Int) from by omega]))) fun a hA => ?_
       refine seq_do hA rfl rfl rfl (does_assign rfl) fun a hA => ?_
       refine seq_end ?_
       refine hK96 _ _ _ (by omega) ⟨k + 1, V / 256, qo106, qc107, rfl, ⟨by omega, (by rw [hV, Nat.div_div_eq_div_mul, ← Nat.pow_succ]), hq9, hM⟩, hA.keep _ ⟨rfl, rfl, rfl, rfl, rfl, rfl, rfl, trivial⟩, hS⟩
      ·
       refine wp_region_lit ?_
       refine seq_do hA rfl rfl rfl (does_move rfl) fun a hA => ?_
       refine seq_do hA rfl rfl rfl (does_move rfl) fun a hA => ?_
       refine seq_do hA rfl rfl rfl (does_move rfl) fun a hA => ?_
       refine seq_do (v := .pointer (some ⟨gx, (k) * 1, none⟩)) hA rfl rfl rfl (does_ixZ (k := k) Tryz.underlying22 (by kernel_rfl) rfl rfl rfl (by omega)) fun a hA => ?_
       have hq9 : Sc w113 qo106 qc107 (words (V / 256)) := ⟨(hS.rd 1 rfl), hq110.nocap, hq110.caps⟩
       refine G.s_storeEN (c := .int .u8 (((V % 256 : Nat) : Int))) (q := (k) * 1) (toG hA) hM rfl rfl (G.m_storeE rfl rfl rfl (by kernel_rfl) hM 0 rfl (show (k) * 1 + 1 ≤ n * 1 by omega) rfl) 0 rfl (G.cells_get (l := G.lowB bg (G.lbI n (2 ^ (8 * n) - x) k)) (i := k) (by rw [G.low_len, G.lbI_len]; omega)) rfl rfl ?_
       intro w126 hM hC9
       replace hq9 := G.sc_carry hq9 hC9
       replace hM : G.Mg w89 w126 [.row G.BY 1 (.slice (some ⟨gx, 0, none⟩) n n) n (Lib.byteCells (G.lowB bg (G.lbI n (2 ^ (8 * n) - x) (k + 1))))] := by
        have h9 := lowI_step (bg := bg) (n := n) (F := (2 ^ (8 * n) - x)) (k := k) (V := V) (i := k) (c := ((V % 256 : Nat) : Int)) (by omega) hV (by rw [hc124]; rfl) rfl
        rw [← h9]
        exact hM
       replace hS : St w89 w126 [] [] [] := St.bare hM.bel
       refine seq_end ?_
       refine hK122 _ _ ?_
       refine wp_region_lit ?_
       refine seq_do hA rfl rfl rfl (does_move rfl) fun a hA => ?_
       refine seq_do hA rfl rfl rfl (does_assign rfl) fun a hA => ?_
       refine seq_end ?_
       refine hK101 _ _ ?_
       refine wp_region_lit ?_
       refine seq_do hA rfl rfl rfl (does_move rfl) fun a hA => ?_
       refine seq_do (v := .int .i64 (((k + 1 : Nat) : Int))) hA rfl rfl rfl (does_bin rfl rfl (fun w => (bin_add (i64In (by omega) (by omega)) w).trans (by rw [show (((k : Nat) : Int) + 1 : Int) = ((k + 1 : Nat) : Int) from by omega]))) fun a hA => ?_
       refine seq_do hA rfl rfl rfl (does_assign rfl) fun a hA => ?_
       refine seq_end ?_
       refine hK96 _ _ _ (by omega) ⟨k + 1, V / 256, qo106, qc107, rfl, ⟨by omega, (by rw [hV, Nat.div_div_eq_div_mul, ← Nat.pow_succ]), hq9, hM⟩, hA.keep _ ⟨rfl, rfl, rfl, rfl, rfl, rfl, rfl, trivial⟩, hS⟩
     ·
      have hb117' := of_decide_eq_false hb117
      refine seq_do (v := .bool false) hA rfl rfl rfl (does_bin rfl rfl (fun w => (bin_gtr w).trans (by rw [hb117]))) fun a hA => ?_
      refine seq_end ?_
      refine hK116 _ _ ?_
      refine wp_cond_false (hA.ev rfl) ?_
      refine wp_skip ?_
      refine hK115 _ _ ?_
      refine wp_seq_k (fun K127 hK127 => ?_)
      refine wp_seq_k (fun K128 hK128 => ?_)
      refine wp_region_lit ?_
      refine seq_do hA rfl rfl rfl (does_move rfl) fun a hA => ?_
      refine seq_end ?_
      refine hK128 _ _ ?_
      refine wp_cond_split (t := bg) (hA.ev rfl) (fun hc129 => ?_) (fun hc129 => ?_)
      ·
       refine wp_region_lit ?_
       refine seq_do hA rfl rfl rfl (does_move rfl) fun a hA => ?_
       refine seq_do hA rfl rfl rfl (does_move rfl) fun a hA => ?_
       refine seq_do (v := .int .i64 (((n - 1 : Nat) : Int))) hA rfl rfl rfl (does_bin rfl rfl (fun w => (bin_sub (i64In (by omega) (by omega)) w).trans (by rw [show (((n : Nat) : Int) - 1 : Int) = ((n - 1 : Nat) : Int) from by omega]))) fun a hA => ?_
       refine seq_do hA rfl rfl rfl (does_move rfl) fun a hA => ?_
       refine seq_do (v := .int .i64 ((((n - 1) - k : Nat) : Int))) hA rfl rfl rfl (does_bin rfl rfl (fun w => (bin_sub (i64In (by omega) (by omega)) w).trans (by rw [show (((n - 1 : Nat) : Int) - ((k : Nat) : Int) : Int) = (((n - 1) - k : Nat) : Int) from by omega]))) fun a hA => ?_
       refine seq_do hA rfl rfl rfl (does_move rfl) fun a hA => ?_
       refine seq_do (v := .pointer (some ⟨gx, ((n - 1) - k) * 1, none⟩)) hA rfl rfl rfl (does_ixZ (k := (n - 1) - k) Tryz.underlying22 (by kernel_rfl) rfl rfl rfl (by omega)) fun a hA => ?_
       have hz0 : V % 256 = 0 := by
        apply Classical.byContradiction
        intro k9
        have := words_len_pos.2 k9
        omega
       have hq9 : Sc w113 qo106 qc107 (words (V / 256)) := ⟨(hS.rd 1 rfl), hq110.nocap, hq110.caps⟩
       refine G.s_storeEN (c := .int .u8 0) (q := ((n - 1) - k) * 1) (toG hA) hM rfl rfl (G.m_storeE rfl rfl rfl (by kernel_rfl) hM 0 rfl (show ((n - 1) - k) * 1 + 1 ≤ n * 1 by omega) rfl) 0 rfl (G.cells_get (l := G.lowB bg (G.lbI n (2 ^ (8 * n) - x) k)) (i := (n - 1) - k) (by rw [G.low_len, G.lbI_len]; omega)) rfl rfl ?_
       intro w130 hM hC9
       replace hq9 := G.sc_carry hq9 hC9
       replace hM : G.Mg w89 w130 [.row G.BY 1 (.slice (some ⟨gx, 0, none⟩) n n) n (Lib.byteCells (G.lowB bg (G.lbI n (2 ^ (8 * n) - x) (k + 1))))] := by
        have h9 := lowI_step (bg := bg) (n := n) (F := (2 ^ (8 * n) - x)) (k := k) (V := V) (i := (n - 1) - k) (c := 0) (by omega) hV (by rw [hc129]; rfl) (by rw [hz0]; rfl)
        rw [← h9]
        exact hM
       replace hS : St w89 w130 [] [] [] := St.bare hM.bel
       refine seq_end ?_
       refine hK127 _ _ ?_
       refine wp_region_lit ?_
       refine seq_do hA rfl rfl rfl (does_move rfl) fun a hA => ?_
       refine seq_do hA rfl rfl rfl (does_assign rfl) fun a hA => ?_
       refine seq_end ?_
       refine hK101 _ _ ?_
       refine wp_region_lit ?_
       refine seq_do hA rfl rfl rfl (does_move rfl) fun a hA => ?_
       refine seq_do (v := .int .i64 (((k + 1 : Nat) : Int))) hA rfl rfl rfl (does_bin rfl rfl (fun w => (bin_add (i64In (by omega) (by omega)) w).trans (by rw [show (((k : Nat) : Int) + 1 : Int) = ((k + 1 : Nat) : Int) from by omega]))) fun a hA => ?_
       refine seq_do hA rfl rfl rfl (does_assign rfl) fun a hA => ?_
       refine seq_end ?_
       refine hK96 _ _ _ (by omega) ⟨k + 1, V / 256, qo106, qc107, rfl, ⟨by omega, (by rw [hV, Nat.div_div_eq_div_mul, ← Nat.pow_succ]), hq9, hM⟩, hA.keep _ ⟨rfl, rfl, rfl, rfl, rfl, rfl, rfl, trivial⟩, hS⟩
      ·
       refine wp_region_lit ?_
       refine seq_do hA rfl rfl rfl (does_move rfl) fun a hA => ?_
       refine seq_do hA rfl rfl rfl (does_move rfl) fun a hA => ?_
       refine seq_do hA rfl rfl rfl (does_move rfl) fun a hA => ?_
       refine seq_do (v := .pointer (some ⟨gx, (k) * 1, none⟩)) hA rfl rfl rfl (does_ixZ (k := k) Tryz.underlying22 (by kernel_rfl) rfl rfl rfl (by omega)) fun a hA => ?_
       have hz0 : V % 256 = 0 := by
        apply Classical.byContradiction
        intro k9
        have := words_len_pos.2 k9
        omega
       have hq9 : Sc w113 qo106 qc107 (words (V / 256)) := ⟨(hS.rd 1 rfl), hq110.nocap, hq110.caps⟩
       refine G.s_storeEN (c := .int .u8 0) (q := (k) * 1) (toG hA) hM rfl rfl (G.m_storeE rfl rfl rfl (by kernel_rfl) hM 0 rfl (show (k) * 1 + 1 ≤ n * 1 by omega) rfl) 0 rfl (G.cells_get (l := G.lowB bg (G.lbI n (2 ^ (8 * n) - x) k)) (i := k) (by rw [G.low_len, G.lbI_len]; omega)) rfl rfl ?_
       intro w131 hM hC9
       replace hq9 := G.sc_carry hq9 hC9
       replace hM : G.Mg w89 w131 [.row G.BY 1 (.slice (some ⟨gx, 0, none⟩) n n) n (Lib.byteCells (G.lowB bg (G.lbI n (2 ^ (8 * n) - x) (k + 1))))] := by
        have h9 := lowI_step (bg := bg) (n := n) (F := (2 ^ (8 * n) - x)) (k := k) (V := V) (i := k) (c := 0) (by omega) hV (by rw [hc129]; rfl) (by rw [hz0]; rfl)
        rw [← h9]
        exact hM
       replace hS : St w89 w131 [] [] [] := St.bare hM.bel
       refine seq_end ?_
       refine hK127 _ _ ?_
       refine wp_region_lit ?_
       refine seq_do hA rfl rfl rfl (does_move rfl) fun a hA => ?_
       refine seq_do hA rfl rfl rfl (does_assign rfl) fun a hA => ?_
       refine seq_end ?_
       refine hK101 _ _ ?_
       refine wp_region_lit ?_
       refine seq_do hA rfl rfl rfl (does_move rfl) fun a hA => ?_
       refine seq_do (v := .int .i64 (((k + 1 : Nat) : Int))) hA rfl rfl rfl (does_bin rfl rfl (fun w => (bin_add (i64In (by omega) (by omega)) w).trans (by rw [show (((k : Nat) : Int) + 1 : Int) = ((k + 1 : Nat) : Int) from by omega]))) fun a hA => ?_
       refine seq_do hA rfl rfl rfl (does_assign rfl) fun a hA => ?_
       refine seq_end ?_
       refine hK96 _ _ _ (by omega) ⟨k + 1, V / 256, qo106, qc107, rfl, ⟨by omega, (by rw [hV, Nat.div_div_eq_div_mul, ← Nat.pow_succ]), hq9, hM⟩, hA.keep _ ⟨rfl, rfl, rfl, rfl, rfl, rfl, rfl, trivial⟩, hS⟩
    ·
     have hb100' := of_decide_eq_false hb100
     refine seq_do (v := .bool false) hA rfl rfl rfl (does_bin rfl rfl (fun w => (bin_lss w).trans (by rw [hb100]))) fun a hA => ?_
     refine seq_end ?_
     refine hK99 _ _ ?_
     refine wp_cond_false (hA.ev rfl) ?_
     refine wp_exit ?_
     refine hK93 _ _ ?_
     refine wp_seq_k (fun K132 hK132 => ?_)
     refine wp_region_lit ?_
     refine seq_do hA rfl rfl rfl (does_move rfl) fun a hA => ?_
     refine seq_do hA rfl rfl rfl (does_assign rfl) fun a hA => ?_
     refine seq_do hA rfl rfl rfl (does_assign rfl) fun a hA => ?_
     refine seq_end ?_
     refine hK132 _ _ ?_
     refine wp_ret ?_
     refine hret _ _ ?_
     refine ends (v := .tuple #[.slice (some ⟨gx, 0, none⟩) n n, .int .i64 0]) hA rfl (.cons (res_tmp rfl) (.cons (res_tmp rfl) .nil)) rfl ?_
     rw [show k = n from by omega, lbI_done'] at hM
     exact .inr ⟨⟨hb72', hb76'⟩, gx, rfl, G.Mg.low hW hM (G.noBld_cons (by simp) (G.noBld_quiet G.quietL_nil))⟩
 refine wp_draw (S := fun w1 => St w w1 [(g35, [.bool false, .slice ro28 ((words (2 ^ (8 * n - 1))).length) rc29, .slice (some ⟨g33, 0, none⟩) 1 1]), (g22, [.bool false, .slice ro15 ((words (2 ^ (8 * n))).length) rc16, .slice (some ⟨g20, 0, none⟩) 1 1]), (g2, [.bool true, .slice a1 ((words x).length) ac1, .slice a2 1 ac2, .bool false, .slice a3 0 ac3, .slice a4 1 ac4])] [(some ⟨g33, 0, none⟩, [1]), (ro28, words (2 ^ (8 * n - 1))), (some ⟨g26, 0, none⟩, [1]), (some ⟨g20, 0, none⟩, [1]), (ro15, words (2 ^ (8 * n))), (some ⟨g13, 0, none⟩, [1]), (a4, [1]), (a3, []), (a2, [1]), (a1, words x)] []) (by kernel_rfl) ?_
 replace hS := hS.drew
 refine any_tk hA 1 rfl rfl rfl rfl hP hS (fun w1 hS => does_loadS hS GvJ_isS_25 rfl 1 rfl (cs := [.bool false, .slice ro15 ((words (2 ^ (8 * n))).length) rc16, .slice (some ⟨g20, 0, none⟩) 1 1]) rfl rfl) fun a hA => ?_
 refine any_many (rs := [0, 2, 3]) (by kernel_rfl) (by simp) ⟨?_, ?_, ?_, trivial⟩
 ·
  refine op_call hA 0 rfl rfl rfl rfl (enters_func  rfl rfl (fun w => by kernel_rfl)) (rzero_any _) ?_
  rintro _ w137 ⟨f133_1, f133_c1, f133_2, f133_c2, rfl, hs134, hs135, hb136⟩
  replace hS := hS.call hb136
  replace hS := hS.addR hs134.rd
  replace hS := hS.addR hs135.rd
  refine ⟨_, rfl, (hS.partD (.refl _) 2 rfl (.refl _)), ?_⟩
  intro a hA
  refine any_many (rs := [2, 3]) (by kernel_rfl) (by simp) ⟨?_, ?_, trivial⟩
  ·
   refine op_new (vs := [.bool false, .slice none 0 0, .slice none 0 0]) (t := 25) hA hS 2 rfl rfl rfl rfl (fun g => .pointer (some ⟨g, 0, none⟩)) (does_alloc (z := .agg #[.bool false, .slice none 0 0, .slice none 0 0]) (by kernel_rfl) rfl) rfl ?_
   intro g138 w139 hS
   refine ⟨(hS.partD (.cons _ (.cons_cons _ (.cons_cons _ (.cons_cons _ .slnil)))) 2 rfl (.refl _)), ?_⟩
   intro a hA
   refine any_one (by kernel_rfl) (op_new (vs := [.bool false, .slice none 0 0, .slice none 0 0]) (t := 25) hA hS 3 rfl rfl rfl rfl (fun g => .pointer (some ⟨g, 0, none⟩)) (does_alloc (z := .agg #[.bool false, .slice none 0 0, .slice none 0 0]) (by kernel_rfl) rfl) rfl ?_)
   intro g140 w141 hS
   refine ⟨(hS.partD (.cons _ (.cons _ (.cons_cons _ (.cons_cons _ (.cons_cons _ .slnil))))) 2 rfl (.refl _)), ?_⟩
   intro a hA
   refine any_one (by kernel_rfl) (op_store (us := [.bool false, .slice f133_1 0 f133_c1, .slice f133_2 1 f133_c2]) hA hS 4 rfl rfl rfl (sets_store rfl rfl rfl (by kernel_rfl) hS 1 rfl rfl rfl) 1 rfl rfl rfl rfl ?_)
   intro w142 hS
   refine ⟨(hS.partD (.cons _ (.cons _ (.cons_cons _ (.cons_cons _ (.cons_cons _ .slnil))))) 2 rfl (.refl _)), ?_⟩
   refine any_one (by kernel_rfl) (op_store (us := [.bool false, .slice ro15 ((words (2 ^ (8 * n))).length) rc16, .slice (some ⟨g20, 0, none⟩) 1 1]) hA hS 5 rfl rfl rfl (sets_store rfl rfl rfl (by kernel_rfl) hS 0 rfl rfl rfl) 0 rfl rfl rfl rfl ?_)
   intro w143 hS
   refine ⟨(hS.partD (.cons _ (.cons _ (.cons_cons _ (.cons_cons _ (.cons_cons _ .slnil))))) 2 rfl (.refl _)), ?_⟩
   refine any_end (by kernel_rfl) ?_
   refine hJ60 _ _ ⟨g138, g140, f133_1, f133_c1, f133_2, f133_c2, hA.keep _ ⟨rfl, rfl, rfl, rfl, rfl, rfl, rfl, rfl, rfl, rfl, rfl, rfl, rfl, rfl, rfl, rfl, rfl, rfl, rfl, rfl, rfl, rfl, rfl, rfl, rfl, rfl, rfl, rfl, rfl, rfl, trivial⟩, (St.pickRL hS ⟨⟨0, rfl⟩, ⟨⟨1, rfl⟩, ⟨⟨2, rfl⟩, ⟨⟨3, rfl⟩, ⟨⟨4, rfl⟩, ⟨⟨5, rfl⟩, ⟨⟨6, rfl⟩, ⟨⟨7, rfl⟩, ⟨⟨8, rfl⟩, ⟨⟨9, rfl⟩, ⟨⟨10, rfl⟩, ⟨⟨11, rfl⟩, trivial⟩⟩⟩⟩⟩⟩⟩⟩⟩⟩⟩⟩ [0, 1, 2, 3, 4] rfl (by decide)), hs135.nil, hs135.cap, hs134.nil, hs134.cap⟩
  ·
   refine op_new (vs := [.bool false, .slice none 0 0, .slice none 0 0]) (t := 25) hA hS 3 rfl rfl rfl rfl (fun g => .pointer (some ⟨g, 0, none⟩)) (does_alloc (z := .agg #[.bool false, .slice none 0 0, .slice none 0 0]) (by kernel_rfl) rfl) rfl ?_
   intro g144 w145 hS
   refine ⟨(hS.partD (.cons _ (.cons_cons _ (.cons_cons _ (.cons_cons _ .slnil)))) 2 rfl (.refl _)), ?_⟩
   intro a hA
   refine any_one (by kernel_rfl) (op_new (vs := [.bool false, .slice none 0 0, .slice none 0 0]) (t := 25) hA hS 2 rfl rfl rfl rfl (fun g => .pointer (some ⟨g, 0, none⟩)) (does_alloc (z := .agg #[.bool false, .slice none 0 0, .slice none 0 0]) (by kernel_rfl) rfl) rfl ?_)
   intro g146 w147 hS
   refine ⟨(hS.partD (.cons _ (.cons _ (.cons_cons _ (.cons_cons _ (.cons_cons _ .slnil))))) 2 rfl (.refl _)), ?_⟩
   intro a hA
   refine any_one (by kernel_rfl) (op_store (us := [.bool false, .slice f133_1 0 f133_c1, .slice f133_2 1 f133_c2]) hA hS 4 rfl rfl rfl (sets_store rfl rfl rfl (by kernel_rfl) hS 0 rfl rfl rfl) 0 rfl rfl rfl rfl ?_)
   intro w148 hS
   refine ⟨(hS.partD (.cons _ (.cons _ (.cons_cons _ (.cons_cons _ (.cons_cons _ .slnil))))) 2 rfl (.refl _)), ?_⟩
   refine any_one (by kernel_rfl) (op_store (us := [.bool false, .slice ro15 ((words (2 ^ (8 * n))).length) rc16, .slice (some ⟨g20, 0, none⟩) 1 1]) hA hS 5 rfl rfl rfl (sets_store rfl rfl rfl (by kernel_rfl) hS 1 rfl rfl rfl) 1 rfl rfl rfl rfl ?_)
   intro w149 hS
   refine ⟨(hS.partD (.cons _ (.cons _ (.cons_cons _ (.cons_cons _ (.cons_cons _ .slnil))))) 2 rfl (.refl _)), ?_⟩
   refine any_end (by kernel_rfl) ?_
   refine hJ60 _ _ ⟨g146, g144, f133_1, f133_c1, f133_2, f133_c2, hA.keep _ ⟨rfl, rfl, rfl, rfl, rfl, rfl, rfl, rfl, rfl, rfl, rfl, rfl, rfl, rfl, rfl, rfl, rfl, rfl, rfl, rfl, rfl, rfl, rfl, rfl, rfl, rfl, rfl, rfl, rfl, rfl, trivial⟩, (St.pickRL hS ⟨⟨0, rfl⟩, ⟨⟨1, rfl⟩, ⟨⟨2, rfl⟩, ⟨⟨3, rfl⟩, ⟨⟨4, rfl⟩, ⟨⟨5, rfl⟩, ⟨⟨6, rfl⟩, ⟨⟨7, rfl⟩, ⟨⟨8, rfl⟩, ⟨⟨9, rfl⟩, ⟨⟨10, rfl⟩, ⟨⟨11, rfl⟩, trivial⟩⟩⟩⟩⟩⟩⟩⟩⟩⟩⟩⟩ [1, 0, 2, 3, 4] rfl (by decide)), hs135.nil, hs135.cap, hs134.nil, hs134.cap⟩
 ·
  refine op_new (vs := [.bool false, .slice none 0 0, .slice none 0 0]) (t := 25) hA hS 2 rfl rfl rfl rfl (fun g => .pointer (some ⟨g, 0, none⟩)) (does_alloc (z := .agg #[.bool false, .slice none 0 0, .slice none 0 0]) (by kernel_rfl) rfl) rfl ?_
  intro g150 w151 hS
  refine ⟨(hS.partD (.cons _ (.cons_cons _ (.cons_cons _ (.cons_cons _ .slnil)))) 0 rfl (.refl _)), ?_⟩
  intro a hA
  refine any_many (rs := [0, 3]) (by kernel_rfl) (by simp) ⟨?_, ?_, trivial⟩
  ·
   refine op_call hA 0 rfl rfl rfl rfl (enters_func  rfl rfl (fun w => by kernel_rfl)) (rzero_any _) ?_
   rintro _ w156 ⟨f152_1, f152_c1, f152_2, f152_c2, rfl, hs153, hs154, hb155⟩
   replace hS := hS.call hb155
   replace hS := hS.addR hs153.rd
   replace hS := hS.addR hs154.rd
   refine ⟨_, rfl, (hS.partD (.cons _ (.cons_cons _ (.cons_cons _ (.cons_cons _ .slnil)))) 2 rfl (.refl _)), ?_⟩
   intro a hA
   refine any_one (by kernel_rfl) (op_new (vs := [.bool false, .slice none 0 0, .slice none 0 0]) (t := 25) hA hS 3 rfl rfl rfl rfl (fun g => .pointer (some ⟨g, 0, none⟩)) (does_alloc (z := .agg #[.bool false, .slice none 0 0, .slice none 0 0]) (by kernel_rfl) rfl) rfl ?_)
   intro g157 w158 hS
   refine ⟨(hS.partD (.cons _ (.cons _ (.cons_cons _ (.cons_cons _ (.cons_cons _ .slnil))))) 2 rfl (.refl _)), ?_⟩
   intro a hA
   refine any_one (by kernel_rfl) (op_store (us := [.bool false, .slice f152_1 0 f152_c1, .slice f152_2 1 f152_c2]) hA hS 4 rfl rfl rfl (sets_store rfl rfl rfl (by kernel_rfl) hS 1 rfl rfl rfl) 1 rfl rfl rfl rfl ?_)
   intro w159 hS
   refine ⟨(hS.partD (.cons _ (.cons _ (.cons_cons _ (.cons_cons _ (.cons_cons _ .slnil))))) 2 rfl (.refl _)), ?_⟩
   refine any_one (by kernel_rfl) (op_store (us := [.bool false, .slice ro15 ((words (2 ^ (8 * n))).length) rc16, .slice (some ⟨g20, 0, none⟩) 1 1]) hA hS 5 rfl rfl rfl (sets_store rfl rfl rfl (by kernel_rfl) hS 0 rfl rfl rfl) 0 rfl rfl rfl rfl ?_)
   intro w160 hS
   refine ⟨(hS.partD (.cons _ (.cons _ (.cons_cons _ (.cons_cons _ (.cons_cons _ .slnil))))) 2 rfl (.refl _)), ?_⟩
   refine any_end (by kernel_rfl) ?_
   refine hJ60 _ _ ⟨g150, g157, f152_1, f152_c1, f152_2, f152_c2, hA.keep _ ⟨rfl, rfl, rfl, rfl, rfl, rfl, rfl, rfl, rfl, rfl, rfl, rfl, rfl, rfl, rfl, rfl, rfl, rfl, rfl, rfl, rfl, rfl, rfl, rfl, rfl, rfl, rfl, rfl, rfl, rfl, trivial⟩, (St.pickRL hS ⟨⟨0, rfl⟩, ⟨⟨1, rfl⟩, ⟨⟨2, rfl⟩, ⟨⟨3, rfl⟩, ⟨⟨4, rfl⟩, ⟨⟨5, rfl⟩, ⟨⟨6, rfl⟩, ⟨⟨7, rfl⟩, ⟨⟨8, rfl⟩, ⟨⟨9, rfl⟩, ⟨⟨10, rfl⟩, ⟨⟨11, rfl⟩, trivial⟩⟩⟩⟩⟩⟩⟩⟩⟩⟩⟩⟩ [0, 1, 2, 3, 4] rfl (by decide)), hs154.nil, hs154.cap, hs153.nil, hs153.cap⟩
  ·
   refine op_new (vs := [.bool false, .slice none 0 0, .slice none 0 0]) (t := 25) hA hS 3 rfl rfl rfl rfl (fun g => .pointer (some ⟨g, 0, none⟩)) (does_alloc (z := .agg #[.bool false, .slice none 0 0, .slice none 0 0]) (by kernel_rfl) rfl) rfl ?_
   intro g161 w162 hS
   refine ⟨(hS.partD (.cons _ (.cons _ (.cons_cons _ (.cons_cons _ (.cons_cons _ .slnil))))) 0 rfl (.refl _)), ?_⟩
   intro a hA
   refine any_one (by kernel_rfl) (op_call hA 0 rfl rfl rfl rfl (enters_func  rfl rfl (fun w => by kernel_rfl)) (rzero_any _) ?_)
   rintro _ w167 ⟨f163_1, f163_c1, f163_2, f163_c2, rfl, hs164, hs165, hb166⟩
   replace hS := hS.call hb166
   replace hS := hS.addR hs164.rd
   replace hS := hS.addR hs165.rd
   refine ⟨_, rfl, (hS.partD (.cons _ (.cons _ (.cons_cons _ (.cons_cons _ (.cons_cons _ .slnil))))) 2 rfl (.refl _)), ?_⟩
   intro a hA
   refine any_one (by kernel_rfl) (op_store (us := [.bool false, .slice f163_1 0 f163_c1, .slice f163_2 1 f163_c2]) hA hS 4 rfl rfl rfl (sets_store rfl rfl rfl (by kernel_rfl) hS 1 rfl rfl rfl) 1 rfl rfl rfl rfl ?_)
   intro w168 hS
   refine ⟨(hS.partD (.cons _ (.cons _ (.cons_cons _ (.cons_cons _ (.cons_cons _ .slnil))))) 2 rfl (.refl _)), ?_⟩
   refine any_one (by kernel_rfl) (op_store (us := [.bool false, .slice ro15 ((words (2 ^ (8 * n))).length) rc16, .slice (some ⟨g20, 0, none⟩) 1 1]) hA hS 5 rfl rfl rfl (sets_store rfl rfl rfl (by kernel_rfl) hS 0 rfl rfl rfl) 0 rfl rfl rfl rfl ?_)
   intro w169 hS
   refine ⟨(hS.partD (.cons _ (.cons _ (.cons_cons _ (.cons_cons _ (.cons_cons _ .slnil))))) 2 rfl (.refl _)), ?_⟩
   refine any_end (by kernel_rfl) ?_
   refine hJ60 _ _ ⟨g150, g161, f163_1, f163_c1, f163_2, f163_c2, hA.keep _ ⟨rfl, rfl, rfl, rfl, rfl, rfl, rfl, rfl, rfl, rfl, rfl, rfl, rfl, rfl, rfl, rfl, rfl, rfl, rfl, rfl, rfl, rfl, rfl, rfl, rfl, rfl, rfl, rfl, rfl, rfl, trivial⟩, (St.pickRL hS ⟨⟨0, rfl⟩, ⟨⟨1, rfl⟩, ⟨⟨2, rfl⟩, ⟨⟨3, rfl⟩, ⟨⟨4, rfl⟩, ⟨⟨5, rfl⟩, ⟨⟨6, rfl⟩, ⟨⟨7, rfl⟩, ⟨⟨8, rfl⟩, ⟨⟨9, rfl⟩, ⟨⟨10, rfl⟩, ⟨⟨11, rfl⟩, trivial⟩⟩⟩⟩⟩⟩⟩⟩⟩⟩⟩⟩ [0, 1, 2, 3, 4] rfl (by decide)), hs165.nil, hs165.cap, hs164.nil, hs164.cap⟩
 ·
  refine op_new (vs := [.bool false, .slice none 0 0, .slice none 0 0]) (t := 25) hA hS 3 rfl rfl rfl rfl (fun g => .pointer (some ⟨g, 0, none⟩)) (does_alloc (z := .agg #[.bool false, .slice none 0 0, .slice none 0 0]) (by kernel_rfl) rfl) rfl ?_
  intro g170 w171 hS
  refine ⟨(hS.partD (.cons _ (.cons_cons _ (.cons_cons _ (.cons_cons _ .slnil)))) 0 rfl (.refl _)), ?_⟩
  intro a hA
  refine any_many (rs := [0, 2]) (by kernel_rfl) (by simp) ⟨?_, ?_, trivial⟩
  ·
   refine op_call hA 0 rfl rfl rfl rfl (enters_func  rfl rfl (fun w => by kernel_rfl)) (rzero_any _) ?_
   rintro _ w176 ⟨f172_1, f172_c1, f172_2, f172_c2, rfl, hs173, hs174, hb175⟩
   replace hS := hS.call hb175
   replace hS := hS.addR hs173.rd
   replace hS := hS.addR hs174.rd
   refine ⟨_, rfl, (hS.partD (.cons _ (.cons_cons _ (.cons_cons _ (.cons_cons _ .slnil)))) 2 rfl (.refl _)), ?_⟩
   intro a hA
   refine any_one (by kernel_rfl) (op_new (vs := [.bool false, .slice none 0 0, .slice none 0 0]) (t := 25) hA hS 2 rfl rfl rfl rfl (fun g => .pointer (some ⟨g, 0, none⟩)) (does_alloc (z := .agg #[.bool false, .slice none 0 0, .slice none 0 0]) (by kernel_rfl) rfl) rfl ?_)
   intro g177 w178 hS
   refine ⟨(hS.partD (.cons _ (.cons _ (.cons_cons _ (.cons_cons _ (.cons_cons _ .slnil))))) 2 rfl (.refl _)), ?_⟩
   intro a hA
   refine any_one (by kernel_rfl) (op_store (us := [.bool false, .slice f172_1 0 f172_c1, .slice f172_2 1 f172_c2]) hA hS 4 rfl rfl rfl (sets_store rfl rfl rfl (by kernel_rfl) hS 0 rfl rfl rfl) 0 rfl rfl rfl rfl ?_)
   intro w179 hS
   refine ⟨(hS.partD (.cons _ (.cons _ (.cons_cons _ (.cons_cons _ (.cons_cons _ .slnil))))) 2 rfl (.refl _)), ?_⟩
   refine any_one (by kernel_rfl) (op_store (us := [.bool false, .slice ro15 ((words (2 ^ (8 * n))).length) rc16, .slice (some ⟨g20, 0, none⟩) 1 1]) hA hS 5 rfl rfl rfl (sets_store rfl rfl rfl (by kernel_rfl) hS 1 rfl rfl rfl) 1 rfl rfl rfl rfl ?_)
   intro w180 hS
   refine ⟨(hS.partD (.cons _ (.cons _ (.cons_cons _ (.cons_cons _ (.cons_cons _ .slnil))))) 2 rfl (.refl _)), ?_⟩
   refine any_end (by kernel_rfl) ?_
   refine hJ60 _ _ ⟨g177, g170, f172_1, f172_c1, f172_2, f172_c2, hA.keep _ ⟨rfl, rfl, rfl, rfl, rfl, rfl, rfl, rfl, rfl, rfl, rfl, rfl, rfl, rfl, rfl, rfl, rfl, rfl, rfl, rfl, rfl, rfl, rfl, rfl, rfl, rfl, rfl, rfl, rfl, rfl, trivial⟩, (St.pickRL hS ⟨⟨0, rfl⟩, ⟨⟨1, rfl⟩, ⟨⟨2, rfl⟩, ⟨⟨3, rfl⟩, ⟨⟨4, rfl⟩, ⟨⟨5, rfl⟩, ⟨⟨6, rfl⟩, ⟨⟨7, rfl⟩, ⟨⟨8, rfl⟩, ⟨⟨9, rfl⟩, ⟨⟨10, rfl⟩, ⟨⟨11, rfl⟩, trivial⟩⟩⟩⟩⟩⟩⟩⟩⟩⟩⟩⟩ [1, 0, 2, 3, 4] rfl (by decide)), hs174.nil, hs174.cap, hs173.nil, hs173.cap⟩
  ·
   refine op_new (vs := [.bool false, .slice none 0 0, .slice none 0 0]) (t := 25) hA hS 2 rfl rfl rfl rfl (fun g => .pointer (some ⟨g, 0, none⟩)) (does_alloc (z := .agg #[.bool false, .slice none 0 0, .slice none 0 0]) (by kernel_rfl) rfl) rfl ?_
   intro g181 w182 hS
   refine ⟨(hS.partD (.cons _ (.cons _ (.cons_cons _ (.cons_cons _ (.cons_cons _ .slnil))))) 0 rfl (.refl _)), ?_⟩
   intro a hA
   refine any_one (by kernel_rfl) (op_call hA 0 rfl rfl rfl rfl (enters_func  rfl rfl (fun w => by kernel_rfl)) (rzero_any _) ?_)
   rintro _ w187 ⟨f183_1, f183_c1, f183_2, f183_c2, rfl, hs184, hs185, hb186⟩
   replace hS := hS.call hb186
   replace hS := hS.addR hs184.rd
   replace hS := hS.addR hs185.rd
   refine ⟨_, rfl, (hS.partD (.cons _ (.cons _ (.cons_cons _ (.cons_cons _ (.cons_cons _ .slnil))))) 2 rfl (.refl _)), ?_⟩
   intro a hA
   refine any_one (by kernel_rfl) (op_store (us := [.bool false, .slice f183_1 0 f183_c1, .slice f183_2 1 f183_c2]) hA hS 4 rfl rfl rfl (sets_store rfl rfl rfl (by kernel_rfl) hS 0 rfl rfl rfl) 0 rfl rfl rfl rfl ?_)
   intro w188 hS
   refine ⟨(hS.partD (.cons _ (.cons _ (.cons_cons _ (.cons_cons _ (.cons_cons _ .slnil))))) 2 rfl (.refl _)), ?_⟩
   refine any_one (by kernel_rfl) (op_store (us := [.bool false, .slice ro15 ((words (2 ^ (8 * n))).length) rc16, .slice (some ⟨g20, 0, none⟩) 1 1]) hA hS 5 rfl rfl rfl (sets_store rfl rfl rfl (by kernel_rfl) hS 1 rfl rfl rfl) 1 rfl rfl rfl rfl ?_)
   intro w189 hS
   refine ⟨(hS.partD (.cons _ (.cons _ (.cons_cons _ (.cons_cons _ (.cons_cons _ .slnil))))) 2 rfl (.refl _)), ?_⟩
   refine any_end (by kernel_rfl) ?_
   refine hJ60 _ _ ⟨g181, g170, f183_1, f183_c1, f183_2, f183_c2, hA.keep _ ⟨rfl, rfl, rfl, rfl, rfl, rfl, rfl, rfl, rfl, rfl, rfl, rfl, rfl, rfl, rfl, rfl, rfl, rfl, rfl, rfl, rfl, rfl, rfl, rfl, rfl, rfl, rfl, rfl, rfl, rfl, trivial⟩, (St.pickRL hS ⟨⟨0, rfl⟩, ⟨⟨1, rfl⟩, ⟨⟨2, rfl⟩, ⟨⟨3, rfl⟩, ⟨⟨4, rfl⟩, ⟨⟨5, rfl⟩, ⟨⟨6, rfl⟩, ⟨⟨7, rfl⟩, ⟨⟨8, rfl⟩, ⟨⟨9, rfl⟩, ⟨⟨10, rfl⟩, ⟨⟨11, rfl⟩, trivial⟩⟩⟩⟩⟩⟩⟩⟩⟩⟩⟩⟩ [1, 0, 2, 3, 4] rfl (by decide)), hs185.nil, hs185.cap, hs184.nil, hs184.cap⟩
theorem rone_large_true_true {w : World} {x n : Nat} {a1 a2 a3 a4 : Option Addr} {ac1 ac2 ac3 ac4 : Nat} (ha : Nm w (Q6.whole true x) a1 ac1 a2 ac2 a3 ac3 a4 ac4) (hx : (words x).length ≤ 512) (h1 : 1 ≤ n) (h64 : n ≤ 64) (bg : Bool) (hbx : true.toNat ≤ x) (hlg : oI (sgn true x + sgn false (2 ^ (8 * n - 1))) < 0 ∨ 0 ≤ oI (sgn true x + sgn true (2 ^ (8 * n - 1)))) : Calls Tryz.prog 21 #[.int .i64 ((n : Nat) : Int), .bool bg, .bool true, numV (Q6.whole true x) a1 ac1 a2 ac2 a3 ac3 a4 ac4] w fun e w' => e = .returned (.tuple #[.slice none 0 0, .int .i64 4]) ∧ Below w.heap.size w w' := by
 refine Calls.mono (rone_true_true ha hx h1 h64 bg hbx) ?_
 rintro e w' (h | ⟨h, _⟩)
 ·
  exact h.2
 ·
  exact (hlg.elim h.1 h.2).elim
theorem rone_ok_true_true {w : World} {x n : Nat} {a1 a2 a3 a4 : Option Addr} {ac1 ac2 ac3 ac4 : Nat} (ha : Nm w (Q6.whole true x) a1 ac1 a2 ac2 a3 ac3 a4 ac4) (hx : (words x).length ≤ 512) (h1 : 1 ≤ n) (h64 : n ≤ 64) (bg : Bool) (hbx : true.toNat ≤ x) (h9 : ¬ oI (sgn true x + sgn false (2 ^ (8 * n - 1))) < 0 ∧ ¬ 0 ≤ oI (sgn true x + sgn true (2 ^ (8 * n - 1)))) : Calls Tryz.prog 21 #[.int .i64 ((n : Nat) : Int), .bool bg, .bool true, numV (Q6.whole true x) a1 ac1 a2 ac2 a3 ac3 a4 ac4] w fun e w' => ∃ g, e = .returned (.tuple #[.slice (some ⟨g, 0, none⟩) n n, .int .i64 0]) ∧ G.Mg w w' [.row G.BY 1 (.slice (some ⟨g, 0, none⟩) n n) n (Lib.byteCells (G.lowB bg (G.leB n (2 ^ (8 * n) - x))))] := by
 refine Calls.mono (rone_true_true ha hx h1 h64 bg hbx) ?_
 rintro e w' (⟨h, _⟩ | h)
 ·
  exact (h.elim h9.1 h9.2).elim
 ·
  exact h.2
end Go.Proofs.YtbajcflbimmnhaaGreatDoor
namespace Go.Proofs.YtbajcflbimmnhaaGreatDoor
open Go.RowKit
set_option linter.unusedVariables false
set_option linter.unusedSimpArgs false
set_option maxRecDepth 100000
theorem GvL_isS_27 : IsS Tryz.prog 27 6 := ⟨⟨_, Tryz.underlying27⟩, by kernel_rfl⟩
theorem rone_form {w : World} {q : Q6} {n : Nat} {a1 a2 a3 a4 : Option Addr} {ac1 ac2 ac3 ac4 : Nat} (ha : Nm w q a1 ac1 a2 ac2 a3 ac3 a4 ac4) (hl : LenQ q) (bg sg : Bool) (hs : soundQ q = false) : Calls Tryz.prog 21 #[.int .i64 ((n : Nat) : Int), .bool bg, .bool sg, numV q a1 ac1 a2 ac2 a3 ac3 a4 ac4] w fun e w' => e = .returned (.tuple #[.slice none 0 0, .int .i64 2]) ∧ Below w.heap.size w w' := by
 have hS : St w w [] [(a4, q.q2), (a3, q.t2), (a2, q.q1), (a1, q.t1)] [] := ((((St.start w).addR ha.s1.rd).addR ha.s2.rd).addR ha.s3.rd).addR ha.s4.rd
 refine walk_of (l := [(0, .int .i64 (((n : Nat) : Int))), (1, .bool bg), (2, .bool sg), (3, .agg #[.bool q.b1, .slice a1 q.t1.length ac1, .slice a2 q.q1.length ac2, .bool q.b2, .slice a3 q.t2.length ac3, .slice a4 q.q2.length ac4])]) Tryz.func21 rfl Tryz.ntmps21 rfl rfl ?_
 intro Q hret hnorm hP a hA
 refine wp_seq_k (fun K1 hK1 => ?_)
 refine wp_region_lit ?_
 refine seq_new hA hS rfl rfl rfl (fun g => .pointer (some ⟨g, 0, none⟩)) (does_box rfl rfl) rfl ?_
 intro g2 w3 hS a hA
 refine seq_do hA rfl rfl rfl (does_assign rfl) fun a hA => ?_
 refine seq_do hA rfl rfl rfl (does_assign rfl) fun a hA => ?_
 refine seq_end ?_
 refine hK1 _ _ ?_
 refine wp_seq_k (fun K4 hK4 => ?_)
 refine wp_seq_k (fun K5 hK5 => ?_)
 refine wp_region_lit ?_
 refine seq_do hA rfl rfl rfl (does_loadS hS GvL_isS_27 rfl 0 rfl (cs := [.bool q.b1, .slice a1 q.t1.length ac1, .slice a2 q.q1.length ac2, .bool q.b2, .slice a3 q.t2.length ac3, .slice a4 q.q2.length ac4]) rfl rfl) fun a hA => ?_
 refine seq_call hA rfl rfl rfl (enters_func  rfl rfl (fun w => by kernel_rfl)) (rsoundQ_any (show Nm _ _ a1 ac1 a2 ac2 a3 ac3 a4 ac4 from ⟨⟨(hS.rd 3 rfl), ha.s1.nil, ha.s1.cap⟩, ⟨(hS.rd 2 rfl), ha.s2.nil, ha.s2.cap⟩, ⟨(hS.rd 1 rfl), ha.s3.nil, ha.s3.cap⟩, ⟨(hS.rd 0 rfl), ha.s4.nil, ha.s4.cap⟩⟩) hl hs) ?_
 rintro _ w7 ⟨rfl, hb6⟩
 replace hS := hS.call hb6
 refine ⟨_, rfl, ?_⟩
 intro a hA
 refine seq_do (v := .bool true) hA rfl rfl rfl (does_un rfl un_not) fun a hA => ?_
 refine seq_end ?_
 refine hK5 _ _ ?_
 refine wp_cond_true (hA.ev rfl) ?_
 refine wp_seq_k (fun K8 hK8 => ?_)
 refine wp_region_lit ?_
 refine seq_do hA rfl rfl rfl (does_assign rfl) fun a hA => ?_
 refine seq_do hA rfl rfl rfl (does_assign rfl) fun a hA => ?_
 refine seq_end ?_
 refine hK8 _ _ ?_
 refine wp_ret ?_
 refine hret _ _ ?_
 refine ends (v := .tuple #[.slice none 0 0, .int .i64 2]) hA rfl (.cons (res_tmp rfl) (.cons (res_tmp rfl) .nil)) rfl ?_
 exact ⟨rfl, hS.bel⟩
theorem rone_type {w : World} {q : Q6} {n : Nat} {a1 a2 a3 a4 : Option Addr} {ac1 ac2 ac3 ac4 : Nat} (ha : Nm w q a1 ac1 a2 ac2 a3 ac3 a4 ac4) (hl : LenQ q) (bg sg : Bool) (hs : soundQ q = true) (hwh : wholeQ q = false) : Calls Tryz.prog 21 #[.int .i64 ((n : Nat) : Int), .bool bg, .bool sg, numV q a1 ac1 a2 ac2 a3 ac3 a4 ac4] w fun e w' => e = .returned (.tuple #[.slice none 0 0, .int .i64 10]) ∧ Below w.heap.size w w' := by
 have hS : St w w [] [(a4, q.q2), (a3, q.t2), (a2, q.q1), (a1, q.t1)] [] := ((((St.start w).addR ha.s1.rd).addR ha.s2.rd).addR ha.s3.rd).addR ha.s4.rd
 refine walk_of (l := [(0, .int .i64 (((n : Nat) : Int))), (1, .bool bg), (2, .bool sg), (3, .agg #[.bool q.b1, .slice a1 q.t1.length ac1, .slice a2 q.q1.length ac2, .bool q.b2, .slice a3 q.t2.length ac3, .slice a4 q.q2.length ac4])]) Tryz.func21 rfl Tryz.ntmps21 rfl rfl ?_
 intro Q hret hnorm hP a hA
 refine wp_seq_k (fun K1 hK1 => ?_)
 refine wp_region_lit ?_
 refine seq_new hA hS rfl rfl rfl (fun g => .pointer (some ⟨g, 0, none⟩)) (does_box rfl rfl) rfl ?_
 intro g2 w3 hS a hA
 refine seq_do hA rfl rfl rfl (does_assign rfl) fun a hA => ?_
 refine seq_do hA rfl rfl rfl (does_assign rfl) fun a hA => ?_
 refine seq_end ?_
 refine hK1 _ _ ?_
 refine wp_seq_k (fun K4 hK4 => ?_)
 refine wp_seq_k (fun K5 hK5 => ?_)
 refine wp_region_lit ?_
 refine seq_do hA rfl rfl rfl (does_loadS hS GvL_isS_27 rfl 0 rfl (cs := [.bool q.b1, .slice a1 q.t1.length ac1, .slice a2 q.q1.length ac2, .bool q.b2, .slice a3 q.t2.length ac3, .slice a4 q.q2.length ac4]) rfl rfl) fun a hA => ?_
 refine seq_call hA rfl rfl rfl (enters_func  rfl rfl (fun w => by kernel_rfl)) (rsoundQ_any (show Nm _ _ a1 ac1 a2 ac2 a3 ac3 a4 ac4 from ⟨⟨(hS.rd 3 rfl), ha.s1.nil, ha.s1.cap⟩, ⟨(hS.rd 2 rfl), ha.s2.nil, ha.s2.cap⟩, ⟨(hS.rd 1 rfl), ha.s3.nil, ha.s3.cap⟩, ⟨(hS.rd 0 rfl), ha.s4.nil, ha.s4.cap⟩⟩) hl hs) ?_
 rintro _ w7 ⟨rfl, hb6⟩
 replace hS := hS.call hb6
 refine ⟨_, rfl, ?_⟩
 intro a hA
 refine seq_do (v := .bool false) hA rfl rfl rfl (does_un rfl un_not) fun a hA => ?_
 refine seq_end ?_
 refine hK5 _ _ ?_
 refine wp_cond_false (hA.ev rfl) ?_
 refine wp_skip ?_
 refine hK4 _ _ ?_
 refine wp_seq_k (fun K8 hK8 => ?_)
 refine wp_seq_k (fun K9 hK9 => ?_)
 refine wp_region_lit ?_
 refine seq_do hA rfl rfl rfl (does_loadS hS GvL_isS_27 rfl 0 rfl (cs := [.bool q.b1, .slice a1 q.t1.length ac1, .slice a2 q.q1.length ac2, .bool q.b2, .slice a3 q.t2.length ac3, .slice a4 q.q2.length ac4]) rfl rfl) fun a hA => ?_
 refine seq_call hA rfl rfl rfl (enters_func  rfl rfl (fun w => by kernel_rfl)) (rwholeQ_any (show Nm _ _ a1 ac1 a2 ac2 a3 ac3 a4 ac4 from ⟨⟨(hS.rd 3 rfl), ha.s1.nil, ha.s1.cap⟩, ⟨(hS.rd 2 rfl), ha.s2.nil, ha.s2.cap⟩, ⟨(hS.rd 1 rfl), ha.s3.nil, ha.s3.cap⟩, ⟨(hS.rd 0 rfl), ha.s4.nil, ha.s4.cap⟩⟩) hl hwh) ?_
 rintro _ w11 ⟨rfl, hb10⟩
 replace hS := hS.call hb10
 refine ⟨_, rfl, ?_⟩
 intro a hA
 refine seq_do (v := .bool true) hA rfl rfl rfl (does_un rfl un_not) fun a hA => ?_
 refine seq_end ?_
 refine hK9 _ _ ?_
 refine wp_cond_true (hA.ev rfl) ?_
 refine wp_seq_k (fun K12 hK12 => ?_)
 refine wp_region_lit ?_
 refine seq_do hA rfl rfl rfl (does_assign rfl) fun a hA => ?_
 refine seq_do hA rfl rfl rfl (does_assign rfl) fun a hA => ?_
 refine seq_end ?_
 refine hK12 _ _ ?_
 refine wp_ret ?_
 refine hret _ _ ?_
 refine ends (v := .tuple #[.slice none 0 0, .int .i64 10]) hA rfl (.cons (res_tmp rfl) (.cons (res_tmp rfl) .nil)) rfl ?_
 exact ⟨rfl, hS.bel⟩
end Go.Proofs.YtbajcflbimmnhaaGreatDoor
namespace Go.Proofs.YtbajcflbimmnhaaGreatDoor
open Go.RowKit
set_option linter.unusedVariables false
set_option linter.unusedSimpArgs false
set_option maxRecDepth 100000

theorem both_err {w : World} {l : List UInt8} (hl : l.length ≤ 140737488351232) {an n : Nat} (h1 : 1 ≤ n) (h64 : n ≤ 64) (hle : an + n ≤ l.length) (bg sg : Bool) {q : Q6} {o1 o2 o3 o4 : Option Addr} {c1 c2 c3 c4 : Nat} (ha : Nm w q o1 c1 o2 c2 o3 c3 o4 c4) {ec : Int} (hec : ec ≠ 0) (hL : ∀ W, Nm W q o1 c1 o2 c2 o3 c3 o4 c4 → Calls Tryz.prog 18 #[.agg #[.int .i64 ((n : Nat) : Int), .bool bg, .bool sg], numV q o1 c1 o2 c2 o3 c3 o4 c4] W (fun e w' => e = .returned (.tuple #[.slice none 0 0, .int .i64 ec]) ∧ Below W.heap.size W w')) (hO : ∀ W, Nm W q o1 c1 o2 c2 o3 c3 o4 c4 → Calls Tryz.prog 21 #[.int .i64 ((n : Nat) : Int), .bool bg, .bool sg, numV q o1 c1 o2 c2 o3 c3 o4 c4] W (fun e w' => e = .returned (.tuple #[.slice none 0 0, .int .i64 ec]) ∧ Below W.heap.size W w')) : ∀ W so ca, Below w.heap.size w W → G.Rb W so l → l.length ≤ ca → Calls Tryz.prog 5 #[.slice so l.length ca, .int .i64 ((an : Nat) : Int), .int .i64 ((n : Nat) : Int), .bool bg, .bool sg, numV q o1 c1 o2 c2 o3 c3 o4 c4] W (fun e w' => e = .returned (.tuple #[.slice none 0 0, .int .i64 ec]) ∧ Below W.heap.size W w') ∧ Calls Tryz.prog 6 #[.slice so l.length ca, .int .i64 ((an : Nat) : Int), .int .i64 ((n : Nat) : Int), .bool bg, .bool sg, numV q o1 c1 o2 c2 o3 c3 o4 c4] W (fun e w' => e = .returned (.tuple #[.slice none 0 0, .int .i64 ec]) ∧ Below W.heap.size W w') :=
 fun W so ca hW hR hca => ⟨G.put_err hR hca hl h1 h64 hle bg sg hec (fun W' hW' => hL W' (G.nm_below (G.nm_below ha hW) hW')), G.rput_err hR hca hl h1 h64 hle bg sg hec (fun W' hW' => hO W' (G.nm_below (G.nm_below ha hW) hW'))⟩
theorem both_ok {w : World} {l : List UInt8} (hl : l.length ≤ 140737488351232) {an n : Nat} (h1 : 1 ≤ n) (h64 : n ≤ 64) (hle : an + n ≤ l.length) (bg sg : Bool) {q : Q6} {o1 o2 o3 o4 : Option Addr} {c1 c2 c3 c4 : Nat} (ha : Nm w q o1 c1 o2 c2 o3 c3 o4 c4) {pl : List UInt8} (hpl : pl.length = n) (hL : ∀ W, Nm W q o1 c1 o2 c2 o3 c3 o4 c4 → Calls Tryz.prog 18 #[.agg #[.int .i64 ((n : Nat) : Int), .bool bg, .bool sg], numV q o1 c1 o2 c2 o3 c3 o4 c4] W (fun e w' => ∃ g, e = .returned (.tuple #[.slice (some ⟨g, 0, none⟩) n n, .int .i64 0]) ∧ G.Mg W w' [.row G.BY 1 (.slice (some ⟨g, 0, none⟩) n n) n (Lib.byteCells pl)])) (hO : ∀ W, Nm W q o1 c1 o2 c2 o3 c3 o4 c4 → Calls Tryz.prog 21 #[.int .i64 ((n : Nat) : Int), .bool bg, .bool sg, numV q o1 c1 o2 c2 o3 c3 o4 c4] W (fun e w' => ∃ g, e = .returned (.tuple #[.slice (some ⟨g, 0, none⟩) n n, .int .i64 0]) ∧ G.Mg W w' [.row G.BY 1 (.slice (some ⟨g, 0, none⟩) n n) n (Lib.byteCells pl)])) : ∀ W so ca, Below w.heap.size w W → G.Rb W so l → l.length ≤ ca → Calls Tryz.prog 5 #[.slice so l.length ca, .int .i64 ((an : Nat) : Int), .int .i64 ((n : Nat) : Int), .bool bg, .bool sg, numV q o1 c1 o2 c2 o3 c3 o4 c4] W (fun e w' => ∃ v, e = .returned (.tuple #[v, .int .i64 0]) ∧ G.Mg W w' [.row G.BY 1 v (G.ovl an pl l).length (Lib.byteCells (G.ovl an pl l))]) ∧ Calls Tryz.prog 6 #[.slice so l.length ca, .int .i64 ((an : Nat) : Int), .int .i64 ((n : Nat) : Int), .bool bg, .bool sg, numV q o1 c1 o2 c2 o3 c3 o4 c4] W (fun e w' => ∃ v, e = .returned (.tuple #[v, .int .i64 0]) ∧ G.Mg W w' [.row G.BY 1 v (G.ovl an pl l).length (Lib.byteCells (G.ovl an pl l))]) := by
 subst hpl
 intro W so ca hW hR hca
 exact ⟨G.put_ok hR hca hl h1 h64 hle bg sg rfl (fun W' hW' => hL W' (G.nm_below (G.nm_below ha hW) hW')), G.rput_ok hR hca hl h1 h64 hle bg sg (fun W' hW' => hO W' (G.nm_below (G.nm_below ha hW) hW'))⟩
theorem getQ_ovl {an n : Nat} {pl l : List UInt8} (hpl : pl.length = n) (hle : an + n ≤ l.length) (h1 : 1 ≤ n) (h64 : n ≤ 64) (bg sg : Bool) {q : Q6} (hn : G.numQ bg sg pl = q) : getQ (G.ovl an pl l) ((an : Nat) : Int) ((n : Nat) : Int) bg sg = (q, 0) := by
 have hlen : (G.ovl an pl l).length = l.length := G.ovl_len (by omega)
 have hk : okG (G.ovl an pl l).length ((an : Nat) : Int) ((n : Nat) : Int) = true := by
  unfold okG G.okSize G.inB
  rw [Bool.and_eq_true]
  exact ⟨decide_eq_true (by omega), decide_eq_true (by omega)⟩
 unfold getQ
 rw [if_pos hk, Int.toNat_natCast, Int.toNat_natCast, ovl_get hpl hle, hn]
theorem puts_out {w : World} {l : List UInt8} (hl : l.length ≤ 140737488351232) {ap size : Int} (hap0 : -9223372036854775808 ≤ ap) (hap1 : ap ≤ 9223372036854775807) (hsize0 : -9223372036854775808 ≤ size) (hsize1 : size ≤ 9223372036854775807) (bg sg : Bool) {q : Q6} {o1 o2 o3 o4 : Option Addr} {c1 c2 c3 c4 : Nat} (ha : Nm w q o1 c1 o2 c2 o3 c3 o4 c4) (hq : LenQ q) :
  (∃ ec : Int, ec ≠ 0 ∧ ∀ W so ca, Below w.heap.size w W → G.Rb W so l → l.length ≤ ca → Calls Tryz.prog 5 #[.slice so l.length ca, .int .i64 ap, .int .i64 size, .bool bg, .bool sg, numV q o1 c1 o2 c2 o3 c3 o4 c4] W (fun e w' => e = .returned (.tuple #[.slice none 0 0, .int .i64 ec]) ∧ Below W.heap.size W w') ∧ Calls Tryz.prog 6 #[.slice so l.length ca, .int .i64 ap, .int .i64 size, .bool bg, .bool sg, numV q o1 c1 o2 c2 o3 c3 o4 c4] W (fun e w' => e = .returned (.tuple #[.slice none 0 0, .int .i64 ec]) ∧ Below W.heap.size W w')) ∨ (∃ p : List UInt8, p.length = l.length ∧ getQ p ap size bg sg = (q, 0) ∧ soundQ q = true ∧ ∀ W so ca, Below w.heap.size w W → G.Rb W so l → l.length ≤ ca → Calls Tryz.prog 5 #[.slice so l.length ca, .int .i64 ap, .int .i64 size, .bool bg, .bool sg, numV q o1 c1 o2 c2 o3 c3 o4 c4] W (fun e w' => ∃ v, e = .returned (.tuple #[v, .int .i64 0]) ∧ G.Mg W w' [.row G.BY 1 v p.length (Lib.byteCells p)]) ∧ Calls Tryz.prog 6 #[.slice so l.length ca, .int .i64 ap, .int .i64 size, .bool bg, .bool sg, numV q o1 c1 o2 c2 o3 c3 o4 c4] W (fun e w' => ∃ v, e = .returned (.tuple #[v, .int .i64 0]) ∧ G.Mg W w' [.row G.BY 1 v p.length (Lib.byteCells p)])) := by
 cases hk : (G.okSize size && G.inB l.length ap size) with
 | false =>
  refine .inl ⟨1, by decide, fun W so ca hW hR hca => ⟨?_, G.rput_no hR hca hl hap0 hap1 hsize0 hsize1 bg sg hk⟩⟩
  cases h1 : G.okSize size with
  | false => exact G.put_no1 hR hca hl hap0 hap1 hsize0 hsize1 bg sg h1
  | true => exact G.put_no2 hR hca hl hap0 hap1 hsize0 hsize1 bg sg h1 (by rw [h1, Bool.true_and] at hk; exact hk)
 | true =>
  rw [Bool.and_eq_true] at hk
  have k1 : 1 ≤ size ∧ size ≤ 64 := of_decide_eq_true hk.1
  have k2 : 0 ≤ ap ∧ 0 ≤ size ∧ ap ≤ (l.length : Int) - size := of_decide_eq_true hk.2
  obtain ⟨an, rfl⟩ := Int.eq_ofNat_of_zero_le k2.1
  obtain ⟨n, rfl⟩ := Int.eq_ofNat_of_zero_le k2.2.1
  have hle : an + n ≤ l.length := by omega
  have h1 : 1 ≤ n := by omega
  have h64 : n ≤ 64 := by omega
  have h8 : 8 * n = n * 8 := Nat.mul_comm _ _
  have hlen : ∀ F, (G.lowB bg (G.leB n F)).length = n := fun F => by rw [G.low_len, G.leB_len]
  rcases want1_cases q with ⟨hw, h2⟩ | ⟨hw, _⟩
  ·
   obtain ⟨b, x, rfl, hx, hb⟩ := wholeOf ha h2
   have hs := soundQ_whole hx hb
   have hov : ∀ F, (G.ovl an (G.lowB bg (G.leB n F)) l).length = l.length := fun F => G.ovl_len (by rw [hlen]; exact hle)
   cases sg with
   | false =>
    cases b with
    | false =>
     by_cases hr : x < 2 ^ (8 * n)
     ·
      exact .inr ⟨_, hov x, getQ_ovl (hlen x) hle h1 h64 bg false (back_pos bg (by rw [← h8]; exact hr)), hs, both_ok hl h1 h64 hle bg false ha (hlen x) (fun W hW => G.laid_all hW hx hb h1 h64 bg false (fld_pos (by rw [← h8]; exact hr)) rfl (bl_le.2 (show x < 2 ^ (n * 8) by rw [← h8]; exact hr)) (fun k => by cases k)) (fun W hW => rone_ok_b_false hW hx h1 h64 bg hb ⟨fun k9 => by have k8 : ((x : Nat) : Int) + ((0 : Nat) : Int) < 0 := oI_lt.1 k9; omega, fun k9 => by have k8 : (0 : Int) ≤ ((x : Nat) : Int) + -((2 ^ (8 * n) : Nat) : Int) := oI_ge.1 k9; omega⟩)⟩
     ·
      exact .inl ⟨4, by decide, both_err hl h1 h64 hle bg false ha (by decide) (fun W hW => G.laid_large hW hx hb h1 h64 bg false (.inl (Nat.lt_of_not_le (fun k => hr (by rw [h8]; exact bl_le.1 k))))) (fun W hW => rone_large_b_false hW hx h1 h64 bg hb (.inr (oI_ge.2 (show (0 : Int) ≤ ((x : Nat) : Int) + -((2 ^ (8 * n) : Nat) : Int) by omega))))⟩
    | true =>
     have hb1 : 1 ≤ x := hb
     exact .inl ⟨4, by decide, both_err hl h1 h64 hle bg false ha (by decide) (fun W hW => G.laid_large hW hx hb h1 h64 bg false (.inr ⟨rfl, rfl⟩)) (fun W hW => rone_large_b_false hW hx h1 h64 bg hb (.inl (oI_lt.2 (show -((x : Nat) : Int) + ((0 : Nat) : Int) < 0 by omega))))⟩
   | true =>
    have hp7 : 0 < 2 ^ (8 * n - 1) := Nat.two_pow_pos _
    cases b with
    | false =>
     by_cases hr : x < 2 ^ (8 * n - 1)
     ·
      have hroom : bl (x - false.toNat) ≤ n * 8 - 1 := bl_le.2 (show x < 2 ^ (n * 8 - 1) by rw [← h8]; exact hr)
      have hF : fld false (x - false.toNat) 0 (n * 8) = x := by rcases fld_whole h1 hb hroom with h | h; exact h.2.1; cases h.1
      exact .inr ⟨_, hov x, getQ_ovl (hlen x) hle h1 h64 bg true (by have h9 := round_trip bg h1 hb hroom; rw [hF] at h9; exact h9), hs, both_ok hl h1 h64 hle bg true ha (hlen x) (fun W hW => G.laid_all hW hx hb h1 h64 bg true hF rfl hroom (fun k => rfl)) (fun W hW => rone_ok_false_true hW hx h1 h64 bg hb ⟨fun k9 => by have k8 : ((x : Nat) : Int) + ((2 ^ (8 * n - 1) : Nat) : Int) < 0 := oI_lt.1 k9; omega, fun k9 => by have k8 : (0 : Int) ≤ ((x : Nat) : Int) + -((2 ^ (8 * n - 1) : Nat) : Int) := oI_ge.1 k9; omega⟩)⟩
     ·
      exact .inl ⟨4, by decide, both_err hl h1 h64 hle bg true ha (by decide) (fun W hW => G.laid_large hW hx hb h1 h64 bg true (.inl (Nat.lt_of_not_le (fun k => hr (by rw [h8]; exact bl_le.1 k))))) (fun W hW => rone_large_false_true hW hx h1 h64 bg hb (.inr (oI_ge.2 (show (0 : Int) ≤ ((x : Nat) : Int) + -((2 ^ (8 * n - 1) : Nat) : Int) by omega))))⟩
    | true =>
     have hb1 : 1 ≤ x := hb
     by_cases hr : x ≤ 2 ^ (8 * n - 1)
     ·
      have hroom : bl (x - true.toNat) ≤ n * 8 - 1 := bl_le.2 (show x - 1 < 2 ^ (n * 8 - 1) by rw [← h8]; omega)
      have hF : fld true (x - true.toNat) 0 (n * 8) = 2 ^ (8 * n) - x := by rcases fld_whole h1 hb hroom with h | h; cases h.1; rw [pow_8]; exact h.2.1
      exact .inr ⟨_, hov _, getQ_ovl (hlen _) hle h1 h64 bg true (by have h9 := round_trip bg h1 hb hroom; rw [hF] at h9; exact h9), hs, both_ok hl h1 h64 hle bg true ha (hlen _) (fun W hW => G.laid_all hW hx hb h1 h64 bg true hF rfl hroom (fun k => rfl)) (fun W hW => rone_ok_true_true hW hx h1 h64 bg hb ⟨fun k9 => by have k8 : -((x : Nat) : Int) + ((2 ^ (8 * n - 1) : Nat) : Int) < 0 := oI_lt.1 k9; omega, fun k9 => by have k8 : (0 : Int) ≤ -((x : Nat) : Int) + -((2 ^ (8 * n - 1) : Nat) : Int) := oI_ge.1 k9; omega⟩)⟩
     ·
      exact .inl ⟨4, by decide, both_err hl h1 h64 hle bg true ha (by decide) (fun W hW => G.laid_large hW hx hb h1 h64 bg true (.inl (Nat.lt_of_not_le (fun k => hr (by have k3 : x - 1 < 2 ^ (n * 8 - 1) := bl_le.1 k; rw [h8]; omega))))) (fun W hW => rone_large_true_true hW hx h1 h64 bg hb (.inl (oI_lt.2 (show -((x : Nat) : Int) + ((2 ^ (8 * n - 1) : Nat) : Int) < 0 by omega))))⟩
  ·
   refine .inl ⟨want1 q, bne_iff_ne.1 hw, both_err hl h1 h64 hle bg sg ha (bne_iff_ne.1 hw) (fun W hW => G.laid_err hW hq hw) (fun W hW => ?_)⟩
   unfold want1 at hw ⊢
   by_cases s : soundQ q = true
   ·
    rw [if_pos s] at hw ⊢
    by_cases s2 : wholeQ q = true
    ·
     rw [if_pos s2] at hw; cases hw
    ·
     rw [if_neg s2]; exact rone_type hW hq bg sg s (Bool.eq_false_iff.2 s2)
   ·
    rw [if_neg s]; exact rone_form hW hq bg sg (Bool.eq_false_iff.2 s)
end Go.Proofs.YtbajcflbimmnhaaGreatDoor
namespace Go.Proofs.YtbajcflbimmnhaaGreatDoor
open Go.RowKit
set_option linter.unusedVariables false
set_option linter.unusedSimpArgs false
set_option maxRecDepth 100000
theorem GvN_isS_27 : IsS Tryz.prog 27 6 := ⟨⟨_, Tryz.underlying27⟩, by kernel_rfl⟩
theorem num258 : G.numQ true false ((([1, 2] : List UInt8).drop 0).take 2) = Q6.whole false 258 := by unfold G.numQ; rw [if_neg (by rintro ⟨k, _⟩; cases k)]; rfl
theorem len258 : (words 258).length ≤ 512 := Nat.le_trans (words_mono (show 258 ≤ 2 ^ 31 by decide)) (by rw [show words (2 ^ 31) = [2 ^ 31] from by rw [words_pos (by decide)]; simp [words_zero]]; decide)
theorem awakeP_any {w : World} : Calls Tryz.prog 7 #[] w fun e w' => e = .returned (.bool true) ∧ Below w.heap.size w w' := by
 have hS : St w w [] [] [] := St.start w
 refine walk_of (l := []) Tryz.func7 rfl Tryz.ntmps7 rfl rfl ?_
 intro Q hret hnorm hP a hA
 refine wp_seq_k (fun K1 hK1 => ?_)
 refine wp_region_lit ?_
 refine seq_do hA rfl rfl rfl (does_assign rfl) fun a hA => ?_
 refine seq_end ?_
 refine hK1 _ _ ?_
 refine wp_seq_k (fun K2 hK2 => ?_)
 refine wp_region_lit ?_
 have hM : G.Mg w w [] := G.Mg.start w
 refine G.s_lit (vs := [.int .u8 1, .int .u8 2]) (toG hA) hM rfl rfl rfl (G.does_buildSlice rfl (by kernel_rfl)) rfl rfl (G.noBld_quiet G.quietL_nil) ?_
 intro g3 w4 hM a hA
 replace hA := ofG hA
 have hW : Below w.heap.size w w4 := hM.bel
 have hr2 : G.Rb w4 (some ⟨g3, 0, none⟩) ([1, 2] : List UInt8) := (G.rb_row (bs := [1, 2]) hM 0 rfl).1
 clear hS
 have hS : St w4 w4 [] [] [] := St.start w4
 refine seq_call hA rfl rfl rfl (enters_func  rfl rfl (fun w => by kernel_rfl)) ((num258 ▸ get_ok (l := [1, 2]) (ca := 2) (an := 0) (nn := 2) (hr2.below hS.bel) (Nat.le_refl _) (by decide) (by decide) (by decide) (by decide) true false)) ?_
 rintro _ w8 ⟨p5_1, p5_c1, p5_2, p5_c2, p5_3, p5_c3, p5_4, p5_c4, rfl, hn6, hb7⟩
 replace hS := hS.call hb7
 replace hS := hS.addR hn6.s1.rd
 replace hS := hS.addR hn6.s2.rd
 replace hS := hS.addR hn6.s3.rd
 replace hS := hS.addR hn6.s4.rd
 refine ⟨_, rfl, ?_⟩
 intro a hA
 refine seq_do hA rfl rfl rfl (does_move rfl) fun a hA => ?_
 refine seq_do (v := .agg #[.bool false, .slice p5_1 ((words 258).length) p5_c1, .slice p5_2 1 p5_c2, .bool false, .slice p5_3 0 p5_c3, .slice p5_4 1 p5_c4]) hA rfl rfl rfl (does_extract (vs := [.agg #[.bool false, .slice p5_1 ((words 258).length) p5_c1, .slice p5_2 1 p5_c2, .bool false, .slice p5_3 0 p5_c3, .slice p5_4 1 p5_c4], .int .i64 0]) rfl rfl) fun a hA => ?_
 refine seq_do (v := .int .i64 0) hA rfl rfl rfl (does_extract (vs := [.agg #[.bool false, .slice p5_1 ((words 258).length) p5_c1, .slice p5_2 1 p5_c2, .bool false, .slice p5_3 0 p5_c3, .slice p5_4 1 p5_c4], .int .i64 0]) rfl rfl) fun a hA => ?_
 refine seq_new (vs := [.bool false, .slice none 0 0, .slice none 0 0, .bool false, .slice none 0 0, .slice none 0 0]) (t := 27) hA hS rfl rfl rfl (fun g => .pointer (some ⟨g, 0, none⟩)) (does_alloc (z := .agg #[.bool false, .slice none 0 0, .slice none 0 0, .bool false, .slice none 0 0, .slice none 0 0]) (by kernel_rfl) rfl) rfl ?_
 intro g9 w10 hS a hA
 refine seq_store (us := [.bool false, .slice p5_1 ((words 258).length) p5_c1, .slice p5_2 1 p5_c2, .bool false, .slice p5_3 0 p5_c3, .slice p5_4 1 p5_c4]) hA hS rfl rfl (sets_store rfl rfl rfl (by kernel_rfl) hS 0 rfl rfl rfl) 0 rfl rfl rfl rfl ?_
 intro w11 hS
 refine seq_do hA rfl rfl rfl (does_assign rfl) fun a hA => ?_
 refine seq_end ?_
 refine hK2 _ _ ?_
 refine wp_seq_k (fun K12 hK12 => ?_)
 refine wp_draw (S := fun w1 => St w4 w1 [(g9, [.bool false, .slice p5_1 ((words 258).length) p5_c1, .slice p5_2 1 p5_c2, .bool false, .slice p5_3 0 p5_c3, .slice p5_4 1 p5_c4])] [(p5_4, [1]), (p5_3, []), (p5_2, [1]), (p5_1, words 258)] []) (by kernel_rfl) ?_
 replace hS := hS.drew
 refine any_tk hA 0 rfl rfl rfl rfl hP hS (fun w1 hS => does_move rfl) fun a hA => ?_
 refine any_tk (v := .bool true) hA 1 rfl rfl rfl rfl hP hS (fun w1 hS => does_bin rfl rfl (fun w => by kernel_rfl)) fun a hA => ?_
 refine any_tk hA 2 rfl rfl rfl rfl hP hS (fun w1 hS => does_move rfl) fun a hA => ?_
 refine any_tk hA 3 rfl rfl rfl rfl hP hS (fun w1 hS => does_loadS hS GvN_isS_27 rfl 0 rfl (cs := [.bool false, .slice p5_1 ((words 258).length) p5_c1, .slice p5_2 1 p5_c2, .bool false, .slice p5_3 0 p5_c3, .slice p5_4 1 p5_c4]) rfl rfl) fun a hA => ?_
 refine any_one (by kernel_rfl) (op_call hA 4 rfl rfl rfl rfl (enters_func  rfl rfl (fun w => by kernel_rfl)) ((show Calls Tryz.prog 22 #[.int .i64 (258)] _ (AnsV _ (Q6.whole false 258)) from intP_any (k := 258) (by decide))) ?_)
 rintro _ w16 ⟨p13_1, p13_c1, p13_2, p13_c2, p13_3, p13_c3, p13_4, p13_c4, rfl, hn14, hb15⟩
 replace hS := hS.call hb15
 replace hS := hS.addR hn14.s1.rd
 replace hS := hS.addR hn14.s2.rd
 replace hS := hS.addR hn14.s3.rd
 replace hS := hS.addR hn14.s4.rd
 refine ⟨_, rfl, (hS.partD (.refl _) 4 rfl (.refl _)), ?_⟩
 intro a hA
 refine any_one (by kernel_rfl) (op_call hA 5 rfl rfl rfl rfl (enters_func  rfl rfl (fun w => by kernel_rfl)) (sameQ_any (p := Q6.whole false 258) (q := Q6.whole false 258) (show Nm _ _ p5_1 p5_c1 p5_2 p5_c2 p5_3 p5_c3 p5_4 p5_c4 from ⟨⟨(hS.rd 7 rfl), hn6.s1.nil, hn6.s1.cap⟩, ⟨(hS.rd 6 rfl), hn6.s2.nil, hn6.s2.cap⟩, ⟨(hS.rd 5 rfl), hn6.s3.nil, hn6.s3.cap⟩, ⟨(hS.rd 4 rfl), hn6.s4.nil, hn6.s4.cap⟩⟩) (lenQ_whole len258) (show Nm _ _ p13_1 p13_c1 p13_2 p13_c2 p13_3 p13_c3 p13_4 p13_c4 from ⟨⟨(hS.rd 3 rfl), hn14.s1.nil, hn14.s1.cap⟩, ⟨(hS.rd 2 rfl), hn14.s2.nil, hn14.s2.cap⟩, ⟨(hS.rd 1 rfl), hn14.s3.nil, hn14.s3.cap⟩, ⟨(hS.rd 0 rfl), hn14.s4.nil, hn14.s4.cap⟩⟩) (lenQ_whole len258) (sameQ_self (soundQ_whole len258 (by decide)))) ?_)
 rintro _ w18 ⟨rfl, hb17⟩
 replace hS := hS.call hb17
 refine ⟨_, rfl, (hS.partD (.refl _) 4 rfl (.refl _)), ?_⟩
 intro a hA
 refine any_tk (v := .bool true) hA 6 rfl rfl rfl rfl hP (hS.partD (.refl _) 4 rfl (.refl _)) (fun w1 hS => does_pick rfl rfl rfl rfl) fun a hA => ?_
 refine any_tk hA 7 rfl rfl rfl rfl hP (hS.partD (.refl _) 4 rfl (.refl _)) (fun w1 hS => does_assign rfl) fun a hA => ?_
 refine any_end (by kernel_rfl) ?_
 refine hK12 _ _ ?_
 refine wp_ret ?_
 refine hret _ _ ?_
 refine ends (v := .bool true) hA rfl (.cons (res_tmp rfl) .nil) rfl ?_
 exact ⟨rfl, chain2 hW hS.bel⟩
set_option maxHeartbeats 1000000 in
theorem puts_e {w : World} {so : Option Addr} {ca : Nat} {l : List UInt8} (hb : G.Rb w so l) (hca : l.length ≤ ca) (hl : l.length ≤ 140737488351232) {X : Q6} {a1 a2 a3 a4 : Option Addr} {ac1 ac2 ac3 ac4 : Nat} (ha : Nm w X a1 ac1 a2 ac2 a3 ac3 a4 ac4) (hX : LenQ X) {ap size : Int} (hap0 : -9223372036854775808 ≤ ap) (hap1 : ap ≤ 9223372036854775807) (hsize0 : -9223372036854775808 ≤ size) (hsize1 : size ≤ 9223372036854775807) (bg sg : Bool) {ec : Int} (hec : ec ≠ 0) (hPut : ∀ W so ca, Below w.heap.size w W → G.Rb W so l → l.length ≤ ca → Calls Tryz.prog 5 #[.slice so l.length ca, .int .i64 ap, .int .i64 size, .bool bg, .bool sg, numV X a1 ac1 a2 ac2 a3 ac3 a4 ac4] W (fun e w' => e = .returned (.tuple #[.slice none 0 0, .int .i64 ec]) ∧ Below W.heap.size W w') ∧ Calls Tryz.prog 6 #[.slice so l.length ca, .int .i64 ap, .int .i64 size, .bool bg, .bool sg, numV X a1 ac1 a2 ac2 a3 ac3 a4 ac4] W (fun e w' => e = .returned (.tuple #[.slice none 0 0, .int .i64 ec]) ∧ Below W.heap.size W w')) : Calls Tryz.prog 3 #[.slice so l.length ca, .int .i64 ap, .int .i64 size, .bool bg, .bool sg, numV X a1 ac1 a2 ac2 a3 ac3 a4 ac4] w fun e w' => e = .returned (.bool true) ∧ Below w.heap.size w w' := by
 obtain ⟨z, hz⟩ : ∃ z, getQ [] ap size bg sg = z := ⟨_, rfl⟩
 have hS : St w w [] [(a4, X.q2), (a3, X.t2), (a2, X.q1), (a1, X.t1)] [] := ((((St.start w).addR ha.s1.rd).addR ha.s2.rd).addR ha.s3.rd).addR ha.s4.rd
 refine walk_of (l := [(0, .slice so l.length ca), (1, .int .i64 ap), (2, .int .i64 size), (3, .bool bg), (4, .bool sg), (5, .agg #[.bool X.b1, .slice a1 X.t1.length ac1, .slice a2 X.q1.length ac2, .bool X.b2, .slice a3 X.t2.length ac3, .slice a4 X.q2.length ac4])]) Tryz.func3 rfl Tryz.ntmps3 rfl rfl ?_
 intro Q hret hnorm hP a hA
 refine wp_seq_k (fun K1 hK1 => ?_)
 refine wp_region_lit ?_
 refine seq_new hA hS rfl rfl rfl (fun g => .pointer (some ⟨g, 0, none⟩)) (does_box rfl rfl) rfl ?_
 intro g2 w3 hS a hA
 refine seq_do hA rfl rfl rfl (does_assign rfl) fun a hA => ?_
 refine seq_end ?_
 refine hK1 _ _ ?_
 refine wp_seq_k (fun K4 hK4 => ?_)
 refine wp_region_lit ?_
 have hWz5 : Below w.heap.size w w3 := hS.bel
 have hFg2z5 : Blk w3 g2 [.bool X.b1, .slice a1 X.t1.length ac1, .slice a2 X.q1.length ac2, .bool X.b2, .slice a3 X.t2.length ac3, .slice a4 X.q2.length ac4] := (hS.own (g2, [.bool X.b1, .slice a1 X.t1.length ac1, .slice a2 X.q1.length ac2, .bool X.b2, .slice a3 X.t2.length ac3, .slice a4 X.q2.length ac4]) (by simp)).2
 have hXwz5 := G.nm_below ha hWz5
 have hbz5 := hb.below hS.bel
 clear hS
 have hS : St w3 w3 [] [] [] := St.start w3
 have hM : G.Mg w3 w3 [] := G.Mg.start w3
 refine G.s_lit (vs := []) (toG hA) hM rfl rfl rfl (G.does_buildSlice rfl (by kernel_rfl)) rfl rfl (G.noBld_quiet G.quietL_nil) ?_
 intro g6 w7 hM a hA
 replace hA := ofG hA
 replace hS : St w3 w7 [] [] [] := St.bare hM.bel
 refine seq_do hA rfl rfl rfl (does_move rfl) fun a hA => ?_
 refine G.s_append (k := 0) (q := 0) (m := l.length) (xs := []) (news := Lib.byteCells l) (L' := fun v8 => [.row G.BY 1 v8 (0 + l.length) ([] ++ Lib.byteCells l)]) (toG hA) rfl rfl rfl (G.m_appendA Tryz.underlying22 (by kernel_rfl) hM 0 rfl rfl (show G.Rb _ _ l from hbz5.below hM.bel) rfl (by first | omega | (simp only [List.length_nil]; omega))) (fun _ => rfl) ?_
 intro v8 w9 hM a hA
 replace hM : G.Mg w3 w9 [.row G.BY 1 v8 l.length (Lib.byteCells l)] := by
  have h9 := hM
  rw [Nat.zero_add, List.nil_append] at h9
  exact h9
 obtain ⟨so10, ca11, rfl⟩ := G.owns_slice (hM.has 0 rfl)
 replace hA := ofG hA
 replace hS : St w3 w9 [] [] [] := St.bare hM.bel
 have hWz12 : Below w.heap.size w w9 := chain2 hWz5 hS.bel
 have hFg2z5z12 := hFg2z5.below hS.bel
 have hXwz12 := G.nm_below ha hWz12
 have hbz5z12 := hbz5.below hS.bel
 have hRz12 : G.Rb w9 so10 l := (G.rb_row (bs := l) hM 0 rfl).1
 have hRcz12 := G.own_cap hM 0 rfl
 clear hS
 have hS : St w9 w9 [] [] [] := St.start w9
 refine seq_do hA rfl rfl rfl (does_assign rfl) fun a hA => ?_
 refine seq_end ?_
 refine hK4 _ _ ?_
 refine wp_seq_k (fun K13 hK13 => ?_)
 refine wp_region_lit ?_
 refine seq_do hA rfl rfl rfl (does_move rfl) fun a hA => ?_
 refine seq_do hA rfl rfl rfl (does_move rfl) fun a hA => ?_
 refine seq_do hA rfl rfl rfl (does_move rfl) fun a hA => ?_
 refine seq_do hA rfl rfl rfl (does_move rfl) fun a hA => ?_
 refine seq_do hA rfl rfl rfl (does_move rfl) fun a hA => ?_
 refine seq_do hA rfl rfl rfl (does_loadSF hS hFg2z5z12 GvN_isS_27 rfl (cs := [.bool X.b1, .slice a1 X.t1.length ac1, .slice a2 X.q1.length ac2, .bool X.b2, .slice a3 X.t2.length ac3, .slice a4 X.q2.length ac4]) rfl rfl) fun a hA => ?_
 refine seq_call hA rfl rfl rfl (enters_func  rfl rfl (fun w => by kernel_rfl)) ((hPut _ _ _ (chain2 hWz12 hS.bel) (hRz12.below hS.bel) hRcz12).1) ?_
 rintro _ w15 ⟨rfl, hb14⟩
 replace hS := hS.call hb14
 refine ⟨_, rfl, ?_⟩
 intro a hA
 refine seq_do hA rfl rfl rfl (does_move rfl) fun a hA => ?_
 refine seq_do (v := .slice none 0 0) hA rfl rfl rfl (does_extract (vs := [.slice none 0 0, .int .i64 ec]) rfl rfl) fun a hA => ?_
 refine seq_do (v := .int .i64 ec) hA rfl rfl rfl (does_extract (vs := [.slice none 0 0, .int .i64 ec]) rfl rfl) fun a hA => ?_
 refine seq_do hA rfl rfl rfl (does_assign rfl) fun a hA => ?_
 refine seq_do hA rfl rfl rfl (does_assign rfl) fun a hA => ?_
 refine seq_end ?_
 refine hK13 _ _ ?_
 refine wp_seq_k (fun K16 hK16 => ?_)
 refine wp_region_lit ?_
 refine seq_do hA rfl rfl rfl (does_move rfl) fun a hA => ?_
 refine seq_do hA rfl rfl rfl (does_move rfl) fun a hA => ?_
 refine seq_do hA rfl rfl rfl (does_move rfl) fun a hA => ?_
 refine seq_do hA rfl rfl rfl (does_move rfl) fun a hA => ?_
 refine seq_do hA rfl rfl rfl (does_move rfl) fun a hA => ?_
 refine seq_do hA rfl rfl rfl (does_loadSF hS hFg2z5z12 GvN_isS_27 rfl (cs := [.bool X.b1, .slice a1 X.t1.length ac1, .slice a2 X.q1.length ac2, .bool X.b2, .slice a3 X.t2.length ac3, .slice a4 X.q2.length ac4]) rfl rfl) fun a hA => ?_
 refine seq_call hA rfl rfl rfl (enters_func  rfl rfl (fun w => by kernel_rfl)) ((hPut _ _ _ (chain2 hWz12 hS.bel) (hbz5z12.below hS.bel) hca).2) ?_
 rintro _ w18 ⟨rfl, hb17⟩
 replace hS := hS.call hb17
 refine ⟨_, rfl, ?_⟩
 intro a hA
 refine seq_do hA rfl rfl rfl (does_move rfl) fun a hA => ?_
 refine seq_do (v := .slice none 0 0) hA rfl rfl rfl (does_extract (vs := [.slice none 0 0, .int .i64 ec]) rfl rfl) fun a hA => ?_
 refine seq_do (v := .int .i64 ec) hA rfl rfl rfl (does_extract (vs := [.slice none 0 0, .int .i64 ec]) rfl rfl) fun a hA => ?_
 refine seq_do hA rfl rfl rfl (does_assign rfl) fun a hA => ?_
 refine seq_do hA rfl rfl rfl (does_assign rfl) fun a hA => ?_
 refine seq_end ?_
 refine hK16 _ _ ?_
 refine wp_seq_k (fun K19 hK19 => ?_)
 refine wp_seq_k (fun K20 hK20 => ?_)
 refine wp_region_lit ?_
 refine seq_call hA rfl rfl rfl (enters_func  rfl rfl (fun w => by kernel_rfl)) (awakeP_any) ?_
 rintro _ w22 ⟨rfl, hb21⟩
 replace hS := hS.call hb21
 refine ⟨_, rfl, ?_⟩
 intro a hA
 refine seq_do (v := .bool false) hA rfl rfl rfl (does_un rfl un_not) fun a hA => ?_
 refine seq_do hA rfl rfl rfl (does_move rfl) fun a hA => ?_
 refine seq_do hA rfl rfl rfl (does_move rfl) fun a hA => ?_
 refine seq_do hA rfl rfl rfl (does_move rfl) fun a hA => ?_
 refine seq_call hA rfl rfl rfl (enters_func  rfl rfl (fun w => by kernel_rfl)) (G.same_as (xs := []) (ys := []) (b := true) (⟨fun h9 => absurd rfl h9⟩ : G.Rb _ none []) (⟨fun h9 => absurd rfl h9⟩ : G.Rb _ none []) (Nat.zero_le _) (decide_eq_true rfl)) ?_
 rintro _ w24 ⟨rfl, hb23⟩
 replace hS := hS.call hb23
 refine ⟨_, rfl, ?_⟩
 intro a hA
 refine seq_do (v := .bool false) hA rfl rfl rfl (does_un rfl un_not) fun a hA => ?_
 refine seq_do (v := .bool false) hA rfl rfl rfl (does_pick rfl rfl rfl rfl) fun a hA => ?_
 refine seq_do hA rfl rfl rfl (does_move rfl) fun a hA => ?_
 refine seq_do hA rfl rfl rfl (does_move rfl) fun a hA => ?_
 refine seq_do hA rfl rfl rfl (does_move rfl) fun a hA => ?_
 refine seq_do (v := .bool false) hA rfl rfl rfl (does_bin rfl rfl (fun w => (bin_neq w).trans (by rw [show ((ec != ec)) = false from (bne_self_eq_false _)]))) fun a hA => ?_
 refine seq_do (v := .bool false) hA rfl rfl rfl (does_pick rfl rfl rfl rfl) fun a hA => ?_
 refine seq_do hA rfl rfl rfl (does_move rfl) fun a hA => ?_
 refine seq_do hA rfl rfl rfl (does_move rfl) fun a hA => ?_
 refine seq_do hA rfl rfl rfl (does_move rfl) fun a hA => ?_
 refine seq_call hA rfl rfl rfl (enters_func  rfl rfl (fun w => by kernel_rfl)) (G.same_as (xs := l) (ys := l) (b := true) (hRz12.below hS.bel) (hbz5z12.below hS.bel) hl (decide_eq_true rfl)) ?_
 rintro _ w26 ⟨rfl, hb25⟩
 replace hS := hS.call hb25
 refine ⟨_, rfl, ?_⟩
 intro a hA
 refine seq_do (v := .bool false) hA rfl rfl rfl (does_un rfl un_not) fun a hA => ?_
 refine seq_do (v := .bool false) hA rfl rfl rfl (does_pick rfl rfl rfl rfl) fun a hA => ?_
 refine seq_end ?_
 refine hK20 _ _ ?_
 refine wp_cond_false (hA.ev rfl) ?_
 refine wp_skip ?_
 refine hK19 _ _ ?_
 refine wp_seq_k (fun K27 hK27 => ?_)
 refine wp_region_lit ?_
 refine seq_do hA rfl rfl rfl (does_move rfl) fun a hA => ?_
 refine seq_do hA rfl rfl rfl (does_move rfl) fun a hA => ?_
 refine seq_do hA rfl rfl rfl (does_move rfl) fun a hA => ?_
 refine seq_do hA rfl rfl rfl (does_move rfl) fun a hA => ?_
 refine seq_do hA rfl rfl rfl (does_move rfl) fun a hA => ?_
 refine seq_call hA rfl rfl rfl (enters_func  rfl rfl (fun w => by kernel_rfl)) ((hz ▸ getP_any (l := []) (ca := 0) (⟨fun h9 => absurd rfl h9⟩ : G.Rb _ none []) (Nat.le_refl _) (Nat.zero_le _) hap0 hap1 hsize0 hsize1 bg sg)) ?_
 rintro _ w31 ⟨p28_1, p28_c1, p28_2, p28_c2, p28_3, p28_c3, p28_4, p28_c4, rfl, hn29, hb30⟩
 replace hS := hS.call hb30
 replace hS := hS.addR hn29.s1.rd
 replace hS := hS.addR hn29.s2.rd
 replace hS := hS.addR hn29.s3.rd
 replace hS := hS.addR hn29.s4.rd
 refine ⟨_, rfl, ?_⟩
 intro a hA
 refine seq_do hA rfl rfl rfl (does_move rfl) fun a hA => ?_
 refine seq_do (v := .agg #[.bool z.1.b1, .slice p28_1 z.1.t1.length p28_c1, .slice p28_2 z.1.q1.length p28_c2, .bool z.1.b2, .slice p28_3 z.1.t2.length p28_c3, .slice p28_4 z.1.q2.length p28_c4]) hA rfl rfl rfl (does_extract (vs := [.agg #[.bool z.1.b1, .slice p28_1 z.1.t1.length p28_c1, .slice p28_2 z.1.q1.length p28_c2, .bool z.1.b2, .slice p28_3 z.1.t2.length p28_c3, .slice p28_4 z.1.q2.length p28_c4], .int .i64 z.2]) rfl rfl) fun a hA => ?_
 refine seq_do (v := .int .i64 z.2) hA rfl rfl rfl (does_extract (vs := [.agg #[.bool z.1.b1, .slice p28_1 z.1.t1.length p28_c1, .slice p28_2 z.1.q1.length p28_c2, .bool z.1.b2, .slice p28_3 z.1.t2.length p28_c3, .slice p28_4 z.1.q2.length p28_c4], .int .i64 z.2]) rfl rfl) fun a hA => ?_
 refine seq_new (vs := [.bool false, .slice none 0 0, .slice none 0 0, .bool false, .slice none 0 0, .slice none 0 0]) (t := 27) hA hS rfl rfl rfl (fun g => .pointer (some ⟨g, 0, none⟩)) (does_alloc (z := .agg #[.bool false, .slice none 0 0, .slice none 0 0, .bool false, .slice none 0 0, .slice none 0 0]) (by kernel_rfl) rfl) rfl ?_
 intro g32 w33 hS a hA
 refine seq_store (us := [.bool z.1.b1, .slice p28_1 z.1.t1.length p28_c1, .slice p28_2 z.1.q1.length p28_c2, .bool z.1.b2, .slice p28_3 z.1.t2.length p28_c3, .slice p28_4 z.1.q2.length p28_c4]) hA hS rfl rfl (sets_store rfl rfl rfl (by kernel_rfl) hS 0 rfl rfl rfl) 0 rfl rfl rfl rfl ?_
 intro w34 hS
 refine seq_do hA rfl rfl rfl (does_assign rfl) fun a hA => ?_
 refine seq_end ?_
 refine hK27 _ _ ?_
 refine wp_seq_k (fun K35 hK35 => ?_)
 refine wp_region_lit ?_
 refine seq_do hA rfl rfl rfl (does_move rfl) fun a hA => ?_
 refine seq_do (v := .bool true) hA rfl rfl rfl (does_bin rfl rfl (fun w => (bin_neq w).trans (by rw [show ((ec != 0)) = true from (bne_iff_ne.2 hec)]))) fun a hA => ?_
 refine seq_do hA rfl rfl rfl (does_move rfl) fun a hA => ?_
 refine seq_skip hA rfl rfl rfl fun a hA => ?_
 refine seq_skip hA rfl rfl rfl fun a hA => ?_
 refine seq_skip hA rfl rfl rfl fun a hA => ?_
 refine seq_skipU hA rfl rfl rfl fun a hA => ?_
 refine seq_skipU hA rfl rfl rfl fun a hA => ?_
 refine seq_skipU hA rfl rfl rfl fun a hA => ?_
 refine seq_skip hA rfl rfl rfl fun a hA => ?_
 refine seq_do (v := .bool true) hA rfl rfl rfl (does_pick rfl rfl rfl rfl) fun a hA => ?_
 refine seq_do hA rfl rfl rfl (does_assign rfl) fun a hA => ?_
 refine seq_end ?_
 refine hK35 _ _ ?_
 refine wp_ret ?_
 refine hret _ _ ?_
 refine ends (v := .bool true) hA rfl (.cons (res_tmp rfl) .nil) rfl ?_
 exact ⟨rfl, chain2 hWz12 hS.bel⟩
set_option maxHeartbeats 1000000 in
theorem puts_ok {w : World} {so : Option Addr} {ca : Nat} {l : List UInt8} (hb : G.Rb w so l) (hca : l.length ≤ ca) (hl : l.length ≤ 140737488351232) {X : Q6} {a1 a2 a3 a4 : Option Addr} {ac1 ac2 ac3 ac4 : Nat} (ha : Nm w X a1 ac1 a2 ac2 a3 ac3 a4 ac4) (hX : LenQ X) {ap size : Int} (hap0 : -9223372036854775808 ≤ ap) (hap1 : ap ≤ 9223372036854775807) (hsize0 : -9223372036854775808 ≤ size) (hsize1 : size ≤ 9223372036854775807) (bg sg : Bool) {p : List UInt8} (hpl : p.length = l.length) (hgp : getQ p ap size bg sg = (X, 0)) (hsX : soundQ X = true) (hPut : ∀ W so ca, Below w.heap.size w W → G.Rb W so l → l.length ≤ ca → Calls Tryz.prog 5 #[.slice so l.length ca, .int .i64 ap, .int .i64 size, .bool bg, .bool sg, numV X a1 ac1 a2 ac2 a3 ac3 a4 ac4] W (fun e w' => ∃ v, e = .returned (.tuple #[v, .int .i64 0]) ∧ G.Mg W w' [.row G.BY 1 v p.length (Lib.byteCells p)]) ∧ Calls Tryz.prog 6 #[.slice so l.length ca, .int .i64 ap, .int .i64 size, .bool bg, .bool sg, numV X a1 ac1 a2 ac2 a3 ac3 a4 ac4] W (fun e w' => ∃ v, e = .returned (.tuple #[v, .int .i64 0]) ∧ G.Mg W w' [.row G.BY 1 v p.length (Lib.byteCells p)])) : Calls Tryz.prog 3 #[.slice so l.length ca, .int .i64 ap, .int .i64 size, .bool bg, .bool sg, numV X a1 ac1 a2 ac2 a3 ac3 a4 ac4] w fun e w' => e = .returned (.bool true) ∧ Below w.heap.size w w' := by
 have hS : St w w [] [(a4, X.q2), (a3, X.t2), (a2, X.q1), (a1, X.t1)] [] := ((((St.start w).addR ha.s1.rd).addR ha.s2.rd).addR ha.s3.rd).addR ha.s4.rd
 refine walk_of (l := [(0, .slice so l.length ca), (1, .int .i64 ap), (2, .int .i64 size), (3, .bool bg), (4, .bool sg), (5, .agg #[.bool X.b1, .slice a1 X.t1.length ac1, .slice a2 X.q1.length ac2, .bool X.b2, .slice a3 X.t2.length ac3, .slice a4 X.q2.length ac4])]) Tryz.func3 rfl Tryz.ntmps3 rfl rfl ?_
 intro Q hret hnorm hP a hA
 refine wp_seq_k (fun K1 hK1 => ?_)
 refine wp_region_lit ?_
 refine seq_new hA hS rfl rfl rfl (fun g => .pointer (some ⟨g, 0, none⟩)) (does_box rfl rfl) rfl ?_
 intro g2 w3 hS a hA
 refine seq_do hA rfl rfl rfl (does_assign rfl) fun a hA => ?_
 refine seq_end ?_
 refine hK1 _ _ ?_
 refine wp_seq_k (fun K4 hK4 => ?_)
 refine wp_region_lit ?_
 have hWz5 : Below w.heap.size w w3 := hS.bel
 have hFg2z5 : Blk w3 g2 [.bool X.b1, .slice a1 X.t1.length ac1, .slice a2 X.q1.length ac2, .bool X.b2, .slice a3 X.t2.length ac3, .slice a4 X.q2.length ac4] := (hS.own (g2, [.bool X.b1, .slice a1 X.t1.length ac1, .slice a2 X.q1.length ac2, .bool X.b2, .slice a3 X.t2.length ac3, .slice a4 X.q2.length ac4]) (by simp)).2
 have hXwz5 := G.nm_below ha hWz5
 have hbz5 := hb.below hS.bel
 clear hS
 have hS : St w3 w3 [] [] [] := St.start w3
 have hM : G.Mg w3 w3 [] := G.Mg.start w3
 refine G.s_lit (vs := []) (toG hA) hM rfl rfl rfl (G.does_buildSlice rfl (by kernel_rfl)) rfl rfl (G.noBld_quiet G.quietL_nil) ?_
 intro g6 w7 hM a hA
 replace hA := ofG hA
 replace hS : St w3 w7 [] [] [] := St.bare hM.bel
 refine seq_do hA rfl rfl rfl (does_move rfl) fun a hA => ?_
 refine G.s_append (k := 0) (q := 0) (m := l.length) (xs := []) (news := Lib.byteCells l) (L' := fun v8 => [.row G.BY 1 v8 (0 + l.length) ([] ++ Lib.byteCells l)]) (toG hA) rfl rfl rfl (G.m_appendA Tryz.underlying22 (by kernel_rfl) hM 0 rfl rfl (show G.Rb _ _ l from hbz5.below hM.bel) rfl (by first | omega | (simp only [List.length_nil]; omega))) (fun _ => rfl) ?_
 intro v8 w9 hM a hA
 replace hM : G.Mg w3 w9 [.row G.BY 1 v8 l.length (Lib.byteCells l)] := by
  have h9 := hM
  rw [Nat.zero_add, List.nil_append] at h9
  exact h9
 obtain ⟨so10, ca11, rfl⟩ := G.owns_slice (hM.has 0 rfl)
 replace hA := ofG hA
 replace hS : St w3 w9 [] [] [] := St.bare hM.bel
 have hWz12 : Below w.heap.size w w9 := chain2 hWz5 hS.bel
 have hFg2z5z12 := hFg2z5.below hS.bel
 have hXwz12 := G.nm_below ha hWz12
 have hbz5z12 := hbz5.below hS.bel
 have hRz12 : G.Rb w9 so10 l := (G.rb_row (bs := l) hM 0 rfl).1
 have hRcz12 := G.own_cap hM 0 rfl
 clear hS
 have hS : St w9 w9 [] [] [] := St.start w9
 refine seq_do hA rfl rfl rfl (does_assign rfl) fun a hA => ?_
 refine seq_end ?_
 refine hK4 _ _ ?_
 refine wp_seq_k (fun K13 hK13 => ?_)
 refine wp_region_lit ?_
 refine seq_do hA rfl rfl rfl (does_move rfl) fun a hA => ?_
 refine seq_do hA rfl rfl rfl (does_move rfl) fun a hA => ?_
 refine seq_do hA rfl rfl rfl (does_move rfl) fun a hA => ?_
 refine seq_do hA rfl rfl rfl (does_move rfl) fun a hA => ?_
 refine seq_do hA rfl rfl rfl (does_move rfl) fun a hA => ?_
 refine seq_do hA rfl rfl rfl (does_loadSF hS hFg2z5z12 GvN_isS_27 rfl (cs := [.bool X.b1, .slice a1 X.t1.length ac1, .slice a2 X.q1.length ac2, .bool X.b2, .slice a3 X.t2.length ac3, .slice a4 X.q2.length ac4]) rfl rfl) fun a hA => ?_
 refine seq_call hA rfl rfl rfl (enters_func  rfl rfl (fun w => by kernel_rfl)) ((hPut _ _ _ (chain2 hWz12 hS.bel) (hRz12.below hS.bel) hRcz12).1) ?_
 rintro _ w18 ⟨v14, rfl, hM17⟩
 obtain ⟨so15, ca16, rfl⟩ := G.owns_slice (hM17.has 0 rfl)
 replace hS := hS.call hM17.bel
 refine ⟨_, rfl, ?_⟩
 intro a hA
 have hWz19 : Below w.heap.size w w18 := chain2 hWz12 hS.bel
 have hFg2z5z12z19 := hFg2z5z12.below hS.bel
 have hXwz19 := G.nm_below ha hWz19
 have hbz5z12z19 := hbz5z12.below hS.bel
 have hRz12z19 := hRz12.below hS.bel
 have hRz19 : G.Rb w18 so15 p := (G.rb_row (bs := p) hM17 0 rfl).1
 have hRcz19 := G.own_cap hM17 0 rfl
 clear hS
 have hS : St w18 w18 [] [] [] := St.start w18
 refine seq_do hA rfl rfl rfl (does_move rfl) fun a hA => ?_
 refine seq_do (v := .slice so15 p.length ca16) hA rfl rfl rfl (does_extract (vs := [.slice so15 p.length ca16, .int .i64 0]) rfl rfl) fun a hA => ?_
 refine seq_do (v := .int .i64 0) hA rfl rfl rfl (does_extract (vs := [.slice so15 p.length ca16, .int .i64 0]) rfl rfl) fun a hA => ?_
 refine seq_do hA rfl rfl rfl (does_assign rfl) fun a hA => ?_
 refine seq_do hA rfl rfl rfl (does_assign rfl) fun a hA => ?_
 refine seq_end ?_
 refine hK13 _ _ ?_
 refine wp_seq_k (fun K20 hK20 => ?_)
 refine wp_region_lit ?_
 refine seq_do hA rfl rfl rfl (does_move rfl) fun a hA => ?_
 refine seq_do hA rfl rfl rfl (does_move rfl) fun a hA => ?_
 refine seq_do hA rfl rfl rfl (does_move rfl) fun a hA => ?_
 refine seq_do hA rfl rfl rfl (does_move rfl) fun a hA => ?_
 refine seq_do hA rfl rfl rfl (does_move rfl) fun a hA => ?_
 refine seq_do hA rfl rfl rfl (does_loadSF hS hFg2z5z12z19 GvN_isS_27 rfl (cs := [.bool X.b1, .slice a1 X.t1.length ac1, .slice a2 X.q1.length ac2, .bool X.b2, .slice a3 X.t2.length ac3, .slice a4 X.q2.length ac4]) rfl rfl) fun a hA => ?_
 refine seq_call hA rfl rfl rfl (enters_func  rfl rfl (fun w => by kernel_rfl)) ((hPut _ _ _ (chain2 hWz19 hS.bel) (hbz5z12z19.below hS.bel) hca).2) ?_
 rintro _ w25 ⟨v21, rfl, hM24⟩
 obtain ⟨so22, ca23, rfl⟩ := G.owns_slice (hM24.has 0 rfl)
 replace hS := hS.call hM24.bel
 refine ⟨_, rfl, ?_⟩
 intro a hA
 have hWz26 : Below w.heap.size w w25 := chain2 hWz19 hS.bel
 have hFg2z5z12z19z26 := hFg2z5z12z19.below hS.bel
 have hXwz26 := G.nm_below ha hWz26
 have hbz5z12z19z26 := hbz5z12z19.below hS.bel
 have hRz12z19z26 := hRz12z19.below hS.bel
 have hRz19z26 := hRz19.below hS.bel
 have hRz26 : G.Rb w25 so22 p := (G.rb_row (bs := p) hM24 0 rfl).1
 have hRcz26 := G.own_cap hM24 0 rfl
 clear hS
 have hS : St w25 w25 [] [] [] := St.start w25
 refine seq_do hA rfl rfl rfl (does_move rfl) fun a hA => ?_
 refine seq_do (v := .slice so22 p.length ca23) hA rfl rfl rfl (does_extract (vs := [.slice so22 p.length ca23, .int .i64 0]) rfl rfl) fun a hA => ?_
 refine seq_do (v := .int .i64 0) hA rfl rfl rfl (does_extract (vs := [.slice so22 p.length ca23, .int .i64 0]) rfl rfl) fun a hA => ?_
 refine seq_do hA rfl rfl rfl (does_assign rfl) fun a hA => ?_
 refine seq_do hA rfl rfl rfl (does_assign rfl) fun a hA => ?_
 refine seq_end ?_
 refine hK20 _ _ ?_
 refine wp_seq_k (fun K27 hK27 => ?_)
 refine wp_seq_k (fun K28 hK28 => ?_)
 refine wp_region_lit ?_
 refine seq_call hA rfl rfl rfl (enters_func  rfl rfl (fun w => by kernel_rfl)) (awakeP_any) ?_
 rintro _ w30 ⟨rfl, hb29⟩
 replace hS := hS.call hb29
 refine ⟨_, rfl, ?_⟩
 intro a hA
 refine seq_do (v := .bool false) hA rfl rfl rfl (does_un rfl un_not) fun a hA => ?_
 refine seq_do hA rfl rfl rfl (does_move rfl) fun a hA => ?_
 refine seq_do hA rfl rfl rfl (does_move rfl) fun a hA => ?_
 refine seq_do hA rfl rfl rfl (does_move rfl) fun a hA => ?_
 refine seq_call hA rfl rfl rfl (enters_func  rfl rfl (fun w => by kernel_rfl)) (G.same_as (xs := p) (ys := p) (b := true) (hRz19z26.below hS.bel) (hRz26.below hS.bel) (by omega) (decide_eq_true rfl)) ?_
 rintro _ w32 ⟨rfl, hb31⟩
 replace hS := hS.call hb31
 refine ⟨_, rfl, ?_⟩
 intro a hA
 refine seq_do (v := .bool false) hA rfl rfl rfl (does_un rfl un_not) fun a hA => ?_
 refine seq_do (v := .bool false) hA rfl rfl rfl (does_pick rfl rfl rfl rfl) fun a hA => ?_
 refine seq_do hA rfl rfl rfl (does_move rfl) fun a hA => ?_
 refine seq_do hA rfl rfl rfl (does_move rfl) fun a hA => ?_
 refine seq_do hA rfl rfl rfl (does_move rfl) fun a hA => ?_
 refine seq_do (v := .bool false) hA rfl rfl rfl (does_bin rfl rfl (fun w => by kernel_rfl)) fun a hA => ?_
 refine seq_do (v := .bool false) hA rfl rfl rfl (does_pick rfl rfl rfl rfl) fun a hA => ?_
 refine seq_do hA rfl rfl rfl (does_move rfl) fun a hA => ?_
 refine seq_do hA rfl rfl rfl (does_move rfl) fun a hA => ?_
 refine seq_do hA rfl rfl rfl (does_move rfl) fun a hA => ?_
 refine seq_call hA rfl rfl rfl (enters_func  rfl rfl (fun w => by kernel_rfl)) (G.same_as (xs := l) (ys := l) (b := true) (hRz12z19z26.below hS.bel) (hbz5z12z19z26.below hS.bel) hl (decide_eq_true rfl)) ?_
 rintro _ w34 ⟨rfl, hb33⟩
 replace hS := hS.call hb33
 refine ⟨_, rfl, ?_⟩
 intro a hA
 refine seq_do (v := .bool false) hA rfl rfl rfl (does_un rfl un_not) fun a hA => ?_
 refine seq_do (v := .bool false) hA rfl rfl rfl (does_pick rfl rfl rfl rfl) fun a hA => ?_
 refine seq_end ?_
 refine hK28 _ _ ?_
 refine wp_cond_false (hA.ev rfl) ?_
 refine wp_skip ?_
 refine hK27 _ _ ?_
 refine wp_seq_k (fun K35 hK35 => ?_)
 refine wp_region_lit ?_
 refine seq_do hA rfl rfl rfl (does_move rfl) fun a hA => ?_
 refine seq_do hA rfl rfl rfl (does_move rfl) fun a hA => ?_
 refine seq_do hA rfl rfl rfl (does_move rfl) fun a hA => ?_
 refine seq_do hA rfl rfl rfl (does_move rfl) fun a hA => ?_
 refine seq_do hA rfl rfl rfl (does_move rfl) fun a hA => ?_
 refine seq_call hA rfl rfl rfl (enters_func  rfl rfl (fun w => by kernel_rfl)) ((hgp ▸ getP_any (l := p) (hRz19z26.below hS.bel) hRcz19 (by omega) hap0 hap1 hsize0 hsize1 bg sg)) ?_
 rintro _ w39 ⟨p36_1, p36_c1, p36_2, p36_c2, p36_3, p36_c3, p36_4, p36_c4, rfl, hn37, hb38⟩
 replace hS := hS.call hb38
 replace hS := hS.addR hn37.s1.rd
 replace hS := hS.addR hn37.s2.rd
 replace hS := hS.addR hn37.s3.rd
 replace hS := hS.addR hn37.s4.rd
 refine ⟨_, rfl, ?_⟩
 intro a hA
 refine seq_do hA rfl rfl rfl (does_move rfl) fun a hA => ?_
 refine seq_do (v := .agg #[.bool X.b1, .slice p36_1 X.t1.length p36_c1, .slice p36_2 X.q1.length p36_c2, .bool X.b2, .slice p36_3 X.t2.length p36_c3, .slice p36_4 X.q2.length p36_c4]) hA rfl rfl rfl (does_extract (vs := [.agg #[.bool X.b1, .slice p36_1 X.t1.length p36_c1, .slice p36_2 X.q1.length p36_c2, .bool X.b2, .slice p36_3 X.t2.length p36_c3, .slice p36_4 X.q2.length p36_c4], .int .i64 0]) rfl rfl) fun a hA => ?_
 refine seq_do (v := .int .i64 0) hA rfl rfl rfl (does_extract (vs := [.agg #[.bool X.b1, .slice p36_1 X.t1.length p36_c1, .slice p36_2 X.q1.length p36_c2, .bool X.b2, .slice p36_3 X.t2.length p36_c3, .slice p36_4 X.q2.length p36_c4], .int .i64 0]) rfl rfl) fun a hA => ?_
 refine seq_new (vs := [.bool false, .slice none 0 0, .slice none 0 0, .bool false, .slice none 0 0, .slice none 0 0]) (t := 27) hA hS rfl rfl rfl (fun g => .pointer (some ⟨g, 0, none⟩)) (does_alloc (z := .agg #[.bool false, .slice none 0 0, .slice none 0 0, .bool false, .slice none 0 0, .slice none 0 0]) (by kernel_rfl) rfl) rfl ?_
 intro g40 w41 hS a hA
 refine seq_store (us := [.bool X.b1, .slice p36_1 X.t1.length p36_c1, .slice p36_2 X.q1.length p36_c2, .bool X.b2, .slice p36_3 X.t2.length p36_c3, .slice p36_4 X.q2.length p36_c4]) hA hS rfl rfl (sets_store rfl rfl rfl (by kernel_rfl) hS 0 rfl rfl rfl) 0 rfl rfl rfl rfl ?_
 intro w42 hS
 refine seq_do hA rfl rfl rfl (does_assign rfl) fun a hA => ?_
 refine seq_end ?_
 refine hK35 _ _ ?_
 refine wp_seq_k (fun K43 hK43 => ?_)
 refine wp_region_lit ?_
 refine seq_do hA rfl rfl rfl (does_move rfl) fun a hA => ?_
 refine seq_do (v := .bool false) hA rfl rfl rfl (does_bin rfl rfl (fun w => by kernel_rfl)) fun a hA => ?_
 refine seq_do hA rfl rfl rfl (does_move rfl) fun a hA => ?_
 refine seq_do hA rfl rfl rfl (does_move rfl) fun a hA => ?_
 refine seq_do (v := .bool true) hA rfl rfl rfl (does_bin rfl rfl (fun w => by kernel_rfl)) fun a hA => ?_
 refine seq_do hA rfl rfl rfl (does_move rfl) fun a hA => ?_
 refine seq_do hA rfl rfl rfl (does_loadS hS GvN_isS_27 rfl 0 rfl (cs := [.bool X.b1, .slice p36_1 X.t1.length p36_c1, .slice p36_2 X.q1.length p36_c2, .bool X.b2, .slice p36_3 X.t2.length p36_c3, .slice p36_4 X.q2.length p36_c4]) rfl rfl) fun a hA => ?_
 refine seq_do hA rfl rfl rfl (does_loadSF hS hFg2z5z12z19z26 GvN_isS_27 rfl (cs := [.bool X.b1, .slice a1 X.t1.length ac1, .slice a2 X.q1.length ac2, .bool X.b2, .slice a3 X.t2.length ac3, .slice a4 X.q2.length ac4]) rfl rfl) fun a hA => ?_
 refine seq_call hA rfl rfl rfl (enters_func  rfl rfl (fun w => by kernel_rfl)) (sameQ_any (p := X) (q := X) (show Nm _ _ p36_1 p36_c1 p36_2 p36_c2 p36_3 p36_c3 p36_4 p36_c4 from ⟨⟨(hS.rd 3 rfl), hn37.s1.nil, hn37.s1.cap⟩, ⟨(hS.rd 2 rfl), hn37.s2.nil, hn37.s2.cap⟩, ⟨(hS.rd 1 rfl), hn37.s3.nil, hn37.s3.cap⟩, ⟨(hS.rd 0 rfl), hn37.s4.nil, hn37.s4.cap⟩⟩) hX (show Nm _ _ a1 ac1 a2 ac2 a3 ac3 a4 ac4 from ⟨⟨(hXwz26.s1.rd.below hS.bel), ha.s1.nil, ha.s1.cap⟩, ⟨(hXwz26.s2.rd.below hS.bel), ha.s2.nil, ha.s2.cap⟩, ⟨(hXwz26.s3.rd.below hS.bel), ha.s3.nil, ha.s3.cap⟩, ⟨(hXwz26.s4.rd.below hS.bel), ha.s4.nil, ha.s4.cap⟩⟩) hX (sameQ_self hsX)) ?_
 rintro _ w45 ⟨rfl, hb44⟩
 replace hS := hS.call hb44
 refine ⟨_, rfl, ?_⟩
 intro a hA
 refine seq_do (v := .bool true) hA rfl rfl rfl (does_pick rfl rfl rfl rfl) fun a hA => ?_
 refine seq_do (v := .bool true) hA rfl rfl rfl (does_pick rfl rfl rfl rfl) fun a hA => ?_
 refine seq_do hA rfl rfl rfl (does_assign rfl) fun a hA => ?_
 refine seq_end ?_
 refine hK43 _ _ ?_
 refine wp_ret ?_
 refine hret _ _ ?_
 refine ends (v := .bool true) hA rfl (.cons (res_tmp rfl) .nil) rfl ?_
 exact ⟨rfl, chain2 hWz26 hS.bel⟩
theorem puts_any {w : World} {so : Option Addr} {ca : Nat} {l : List UInt8} (hb : G.Rb w so l) (hca : l.length ≤ ca) (hl : l.length ≤ 140737488351232) {X : Q6} {a1 a2 a3 a4 : Option Addr} {ac1 ac2 ac3 ac4 : Nat} (ha : Nm w X a1 ac1 a2 ac2 a3 ac3 a4 ac4) (hX : LenQ X) {ap size : Int} (hap0 : -9223372036854775808 ≤ ap) (hap1 : ap ≤ 9223372036854775807) (hsize0 : -9223372036854775808 ≤ size) (hsize1 : size ≤ 9223372036854775807) (bg sg : Bool) : Calls Tryz.prog 3 #[.slice so l.length ca, .int .i64 ap, .int .i64 size, .bool bg, .bool sg, numV X a1 ac1 a2 ac2 a3 ac3 a4 ac4] w fun e w' => e = .returned (.bool true) ∧ Below w.heap.size w w' := by
 rcases puts_out hl hap0 hap1 hsize0 hsize1 bg sg ha hX with ⟨ec, hec, h⟩ | ⟨p, hpl, hg, hs, h⟩
 ·
  exact puts_e hb hca hl ha hX hap0 hap1 hsize0 hsize1 bg sg hec h
 ·
  exact puts_ok hb hca hl ha hX hap0 hap1 hsize0 hsize1 bg sg hpl hg hs h
end Go.Proofs.YtbajcflbimmnhaaGreatDoor
namespace Go.Proofs.YtbajcflbimmnhaaGreatDoor.G
open Go.ChangeShapes Go.WideShapes Go.ChangeAt Go.RowKit Go.Joins Go.Deep
set_option linter.unusedVariables false
set_option linter.unusedSimpArgs false
set_option maxRecDepth 100000

section
variable {H : Type} {enc : TypeId × Value → H} {W : World}
end
end Go.Proofs.YtbajcflbimmnhaaGreatDoor.G
namespace Go.Proofs.YtbajcflbimmnhaaGreatDoor.G
open Go.ChangeShapes Go.WideShapes Go.ChangeAt Go.RowKit Go.Joins Go.Deep
set_option linter.unusedVariables false
set_option linter.unusedSimpArgs false
set_option maxRecDepth 100000

theorem bytes_row {w : World} {x : Addr} {len cap : Nat} {zs : List Int} (hl : len ≤ cap) (hz : zs.length = cap)
    (hc : ∀ i, i < zs.length → w.cell? (x.add i) = some (.int .u8 (zs.getD i 0))) (hw : ∀ n ∈ zs, (Lit.int .u8 n).wf = true) :
    ∃ l : List UInt8, l.length = len ∧ Rb w (some x) l := by
  have hbd : ∀ n ∈ zs, 0 ≤ n ∧ n < 256 := by
    intro n hn
    have := bounds_u8 (hw n hn)
    omega
  refine ⟨(zs.take len).map b8, by rw [List.length_map, List.length_take]; omega, ⟨fun hne => ?_⟩⟩
  have hlen : ((zs.take len).map b8).length = len := by rw [List.length_map, List.length_take]; omega
  have h0 : 0 < len := by
    apply Classical.byContradiction
    intro h
    have : len = 0 := by omega
    subst this
    simp at hne
  obtain ⟨b, off, spot⟩ := x
  have hspot : spot = none := by
    have := hc 0 (by omega)
    simp only [World.cell?, Addr.add] at this
    split at this
    · cases spot with
      | none => rfl
      | some s => simp at this
    · cases this
  subst hspot
  have hcj : ∀ j, j < len → w.cell? ⟨b, off + j, none⟩ = some (.int .u8 (((((zs.take len).map b8).getD j 0).toNat : Nat) : Int)) := by
    intro j hj
    have h1 := hc j (by omega)
    rw [Addr.add_lit] at h1
    rw [h1]
    have hjz : j < zs.length := by omega
    have h2 := hbd zs[j] (List.getElem_mem hjz)
    have e1 : zs.getD j 0 = zs[j] := by simp [hjz]
    have e2 : ((zs.take len).map b8).getD j 0 = b8 zs[j] := by simp [List.getD_eq_getElem?_getD, hj, hjz]
    rw [e1, e2, b8_val h2.1 h2.2]
  refine ⟨b, off, rfl, ?_, fun j hj => hcj j (by omega)⟩
  have := hcj 0 h0
  apply Classical.byContradiction
  intro h
  simp [World.cell?, Array.getElem?_eq_none (Nat.le_of_not_lt h)] at this
section
variable {H : Type} {enc : TypeId × Value → H} {W : World}
end
theorem Rb.take {w : World} {so : Option Addr} {l : List UInt8} (h : Rb w so l) (n : Nat) : Rb w so (l.take n) := by
  refine ⟨fun hne => ?_⟩
  obtain ⟨b, off, h1, h2, h3⟩ := h.pos (fun k => hne (by rw [k]; simp))
  refine ⟨b, off, h1, h2, fun j hj => ?_⟩
  rw [List.length_take] at hj
  rw [h3 j (by omega), List.getD_eq_getElem?_getD, List.getD_eq_getElem?_getD, List.getElem?_take_of_lt (by omega)]
section
variable {P : Program} {w : World} {l : List (Nat × Value)} {dst : Option Tmp} {ty : TypeId} {pos : String} {after : Array Edge} {guard : Option (Nat × Bool)}
end
end Go.Proofs.YtbajcflbimmnhaaGreatDoor.G
