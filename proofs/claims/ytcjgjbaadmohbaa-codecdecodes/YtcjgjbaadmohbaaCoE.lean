/- Walks of what carries out the three modes. -/
import Derived.Test.YtcjgjbaadmohbaaCoD
namespace Go.Proofs.Ytcjgjbaadmohbaa
open Go.RowKit
set_option linter.unusedVariables false
set_option linter.unusedSimpArgs false
set_option maxRecDepth 100000
theorem CoE_is1_21 : Is1 Try.prog 21 := ⟨⟨_, Try.underlying21, rfl⟩, by kernel_rfl⟩
theorem CoE_is1_25 : Is1 Try.prog 25 := ⟨⟨_, Try.underlying25, rfl⟩, by kernel_rfl⟩
theorem CoE_is1_3 : Is1 Try.prog 3 := ⟨⟨_, Try.underlying3, rfl⟩, by kernel_rfl⟩
theorem CoE_is1_69 : Is1 Try.prog 69 := ⟨⟨_, Try.underlying69, rfl⟩, by kernel_rfl⟩
/-- A function that takes a character, or says that it does not. -/
structure Puts (P : Program) (w0 : World) (f : FuncId) (cs : List Value) {σ : Type} (A : Nat → σ → List Ck → Prop) (put : σ → Int → σ × Bool) : Prop where
  inv : ∀ (us : Array Value) (w : World), (callFunc f us).run P w = .ok (.enter f us) w
  mono : ∀ (n m : Nat) (s : σ) (T : List Ck), m ≤ n → A n s T → A m s T
  run : ∀ (n : Nat) (s : σ) (r : Int) (w : World) (X T : List Ck), A (n + 1) s T → (0 ≤ r ∧ r ≤ 1114111 ∧ ¬ (55296 ≤ r ∧ r ≤ 57343)) → (∀ d ∈ X, quietC d) → Mg w0 w (X ++ T) → Calls P f ([Value.int .i32 r] ++ cs).toArray w (fun e w' => e = .returned (.bool (put s r).2) ∧ ∃ T', A n (put s r).1 T' ∧ Mg w0 w' (X ++ T'))
/-- A function that tells a visitor these units. -/
structure Tells (P : Program) (w0 : World) (f : FuncId) (cs : List Value) (U : List Ck) (N : Nat) (us : List (Int × Int)) : Prop where
  inv : ∀ (us : Array Value) (w : World), (callFunc f us).run P w = .ok (.enter f us) w
  run : ∀ {σ : Type} (A : Nat → σ → List Ck → Prop) (step : σ → Int → Int → σ × Bool) (g : FuncId) (ks : List Value) (s0 : σ) (w : World) (X T0 : List Ck), Visits P w0 g ks A step → A N s0 T0 → (∀ d ∈ X, quietC d) → Mg w0 w (U ++ (X ++ T0)) →
    Calls P f ([Value.func (.func g) #[] ks.toArray] ++ cs).toArray w (fun e w' => e = .returned (.tuple #[]) ∧ ∃ T', A 0 (runV step s0 us) T' ∧ Mg w0 w' (U ++ (X ++ T')))
/-- What carry does with one unit. -/
def cstep {σ : Type} (put : σ → Int → σ × Bool) (mode inst : Int) (x : σ × Int × Int) (at_ r : Int) : (σ × Int × Int) × Bool :=
  if r = -1 then
    (if mode = 0 then ((x.1, at_, 6), false) else if mode = 1 then (((put x.1 inst).1, x.2), true) else (x, true))
  else if (put x.1 r).2 = true then (((put x.1 r).1, x.2), true)
  else (if mode = 0 then (((put x.1 r).1, at_, 6), false) else if mode = 1 then (((put (put x.1 r).1 inst).1, x.2), true) else (((put x.1 r).1, x.2), true))
/-- The variables that carry shares with its visitor. -/
def boxes (ge ga gi gm gp : Nat) (fp : FuncId) (cp : List Value) (mode inst a0 e0 : Int) : List Ck :=
  [.obj ge (.cells [.int .i64 e0].toArray 25), .obj ga (.cells [.int .i64 a0].toArray 3), .obj gi (.cells [.int .i32 inst].toArray 21), .obj gm (.cells [.int .i64 mode].toArray 3), .obj gp (.cells [.func (.func fp) #[] cp.toArray].toArray 69)]
theorem perm_in (X B T : List Ck) : (X ++ (B ++ T)).Perm (B ++ (X ++ T)) := List.perm_append_comm_assoc X B T
theorem perm_out (B U X T : List Ck) : (B ++ (U ++ (X ++ T))).Perm (U ++ (X ++ (B ++ T))) := (List.perm_append_comm_assoc B U (X ++ T)).trans ((List.perm_append_comm_assoc B X T).append_left U)
theorem carry1_any {w0 w : World} {ge ga gi gm gp : Nat} {mode inst a0 e0 at_ r : Int} {fp : FuncId} {cp : List Value} {σ : Type} {A : Nat → σ → List Ck → Prop} {put : σ → Int → σ × Bool} (hPut : Puts Try.prog w0 fp cp A put) (hinst : 0 ≤ inst ∧ inst ≤ 1114111 ∧ ¬ (55296 ≤ inst ∧ inst ≤ 57343)) {n : Nat} {s0 : σ} {X T0 : List Ck} (hqX : ∀ d ∈ X, quietC d) (hA0 : A (2 * n + 1 + 1) s0 T0) (hr : OkU r) (hM0 : Mg w0 w (boxes ge ga gi gm gp fp cp mode inst a0 e0 ++ (X ++ T0))) : Calls Try.prog 69 #[.int .i64 at_, .int .i32 r, .pointer (some ⟨gp, 0, none⟩), .pointer (some ⟨gm, 0, none⟩), .pointer (some ⟨ga, 0, none⟩), .pointer (some ⟨ge, 0, none⟩), .pointer (some ⟨gi, 0, none⟩)] w (fun e w' => e = .returned (.bool (cstep put mode inst (s0, a0, e0) at_ r).2) ∧ ∃ T', A (2 * n) (cstep put mode inst (s0, a0, e0) at_ r).1.1 T' ∧ Mg w0 w' (boxes ge ga gi gm gp fp cp mode inst (cstep put mode inst (s0, a0, e0) at_ r).1.2.1 (cstep put mode inst (s0, a0, e0) at_ r).1.2.2 ++ (X ++ T'))) := by
 have hM : Mg w0 w (.obj ge (.cells #[.int .i64 e0] 25) :: .obj ga (.cells #[.int .i64 a0] 3) :: .obj gi (.cells #[.int .i32 inst] 21) :: .obj gm (.cells #[.int .i64 mode] 3) :: .obj gp (.cells #[.func (.func fp) #[] cp.toArray] 69) :: (X ++ T0)) := hM0
 refine walk_of (l := [(0, .int .i64 at_), (1, .int .i32 r), (2, .pointer (some ⟨gp, 0, none⟩)), (3, .pointer (some ⟨gm, 0, none⟩)), (4, .pointer (some ⟨ga, 0, none⟩)), (5, .pointer (some ⟨ge, 0, none⟩)), (6, .pointer (some ⟨gi, 0, none⟩))]) Try.func69 rfl Try.ntmps69 rfl rfl ?_
 intro Q hret hnorm hP a hA
 refine wp_seq_k (fun K1 hK1 => ?_)
 refine wp_region_lit ?_
 refine seq_do hA rfl rfl rfl (does_assign rfl) ?_
 intro a hA
 refine seq_end ?_
 refine hK1 _ _ ?_
 refine wp_seq_k (fun K2 hK2 => ?_)
 refine wp_seq_k (fun K3 hK3 => ?_)
 refine wp_region_lit ?_
 refine seq_do hA rfl rfl rfl (does_move rfl) ?_
 intro a hA
 rcases Bool.eq_false_or_eq_true ((r != -1)) with hb4 | hb4
 · have hb4' := bne_iff_ne.1 hb4
   refine seq_do (v := .bool true) hA rfl rfl rfl (does_bin rfl rfl (fun w => (bin_neq w).trans (by rw [hb4]))) ?_
   intro a hA
   refine seq_do hA rfl rfl rfl (does_move rfl) ?_
   intro a hA
   refine seq_do hA rfl rfl rfl (m_load1 hM CoE_is1_69 rfl 4 rfl rfl) ?_
   intro a hA
   refine seq_do hA rfl rfl rfl (does_move rfl) ?_
   intro a hA
   refine seq_call hA rfl rfl rfl (enters_fn rfl rfl hPut.inv) (hPut.run (2 * n + 1) s0 (r) _ (.obj ge (.cells #[.int .i64 e0] 25) :: .obj ga (.cells #[.int .i64 a0] 3) :: .obj gi (.cells #[.int .i32 inst] 21) :: .obj gm (.cells #[.int .i64 mode] 3) :: .obj gp (.cells #[.func (.func fp) #[] cp.toArray] 69) :: X) T0 hA0 (by unfold OkU at hr; omega) (quietL_cons (quiet_cells (by decide)) (quietL_cons (quiet_cells (by decide)) (quietL_cons (quiet_cells (by decide)) (quietL_cons (quiet_cells (by decide)) (quietL_cons (quiet_cells (by decide)) hqX))))) hM) ?_
   rintro _ w8 ⟨rfl, T5, hA6, hM7⟩
   replace hM : Mg w0 w8 (.obj ge (.cells #[.int .i64 e0] 25) :: .obj ga (.cells #[.int .i64 a0] 3) :: .obj gi (.cells #[.int .i32 inst] 21) :: .obj gm (.cells #[.int .i64 mode] 3) :: .obj gp (.cells #[.func (.func fp) #[] cp.toArray] 69) :: (X ++ T5)) := hM7
   refine ⟨_, rfl, ?_⟩
   intro a hA
   refine seq_do (v := .bool ((put s0 (r)).2)) hA rfl rfl rfl (does_pick rfl rfl rfl rfl) ?_
   intro a hA
   refine seq_end ?_
   refine hK3 _ _ ?_
   refine wp_cond_split (t := (put s0 (r)).2) (hA.ev rfl) (fun hc9 => ?_) (fun hc9 => ?_)
   · refine wp_seq_k (fun K10 hK10 => ?_)
     refine wp_region_lit ?_
     refine seq_do hA rfl rfl rfl (does_assign rfl) ?_
     intro a hA
     refine seq_end ?_
     refine hK10 _ _ ?_
     refine wp_ret ?_
     refine hret _ _ ?_
     refine ends (v := .bool true) hA rfl (.cons (res_tmp rfl) .nil) rfl ?_
     exact ⟨by unfold cstep; repeat (first | rfl | rw [if_pos (by first | omega | assumption)] | rw [if_neg (by first | omega | (intro h9; simp_all; done))]), T5, by unfold cstep; repeat (first | exact hPut.mono _ _ _ _ (by omega) hA6 | rw [if_pos (by first | omega | assumption)] | rw [if_neg (by first | omega | (intro h9; simp_all; done))]), by unfold cstep; repeat (first | exact hM | rw [if_pos (by first | omega | assumption)] | rw [if_neg (by first | omega | (intro h9; simp_all; done))])⟩
   · refine wp_skip ?_
     refine hK2 _ _ ?_
     refine wp_seq_k (fun K11 hK11 => ?_)
     refine wp_seq_k (fun K12 hK12 => ?_)
     refine wp_region_lit ?_
     refine seq_do hA rfl rfl rfl (m_load1 hM CoE_is1_3 rfl 3 rfl rfl) ?_
     intro a hA
     refine seq_end ?_
     refine hK12 _ _ ?_
     refine wp_block ?_
     refine wp_seq_k (fun K13 hK13 => ?_)
     refine wp_region_lit ?_
     rcases Bool.eq_false_or_eq_true ((mode == 0)) with hb14 | hb14
     · have hb14' := eq_of_beq hb14
       refine seq_do (v := .bool true) hA rfl rfl rfl (does_bin rfl rfl (fun w => (bin_eql w).trans (by rw [hb14]))) ?_
       intro a hA
       refine seq_do hA rfl rfl rfl (does_assign rfl) ?_
       intro a hA
       refine seq_end ?_
       refine hK13 _ _ ?_
       refine wp_cond_true (hA.ev rfl) ?_
       refine wp_seq_k (fun K15 hK15 => ?_)
       refine wp_region_lit ?_
       refine seq_do hA rfl rfl rfl (does_move rfl) ?_
       intro a hA
       refine s_store (us := [.int .i64 at_]) (L' := (.obj ge (.cells #[.int .i64 e0] 25) :: .obj ga (.cells #[.int .i64 at_] 3) :: .obj gi (.cells #[.int .i32 inst] 21) :: .obj gm (.cells #[.int .i64 mode] 3) :: .obj gp (.cells #[.func (.func fp) #[] cp.toArray] 69) :: (X ++ T5))) hA hM rfl rfl (m_store rfl rfl rfl (by kernel_rfl) hM 1 rfl rfl rfl) 1 rfl rfl rfl ?_
       intro w16 hM
       refine s_store (us := [.int .i64 6]) (L' := (.obj ge (.cells #[.int .i64 6] 25) :: .obj ga (.cells #[.int .i64 at_] 3) :: .obj gi (.cells #[.int .i32 inst] 21) :: .obj gm (.cells #[.int .i64 mode] 3) :: .obj gp (.cells #[.func (.func fp) #[] cp.toArray] 69) :: (X ++ T5))) hA hM rfl rfl (m_store rfl rfl rfl (by kernel_rfl) hM 0 rfl rfl rfl) 0 rfl rfl rfl ?_
       intro w17 hM
       refine seq_end ?_
       refine hK15 _ _ ?_
       refine wp_seq_k (fun K18 hK18 => ?_)
       refine wp_region_lit ?_
       refine seq_do hA rfl rfl rfl (does_assign rfl) ?_
       intro a hA
       refine seq_end ?_
       refine hK18 _ _ ?_
       refine wp_ret ?_
       refine hret _ _ ?_
       refine ends (v := .bool false) hA rfl (.cons (res_tmp rfl) .nil) rfl ?_
       exact ⟨by unfold cstep; repeat (first | rfl | rw [if_pos (by first | omega | assumption)] | rw [if_neg (by first | omega | (intro h9; simp_all; done))]), T5, by unfold cstep; repeat (first | exact hPut.mono _ _ _ _ (by omega) hA6 | rw [if_pos (by first | omega | assumption)] | rw [if_neg (by first | omega | (intro h9; simp_all; done))]), by unfold cstep; repeat (first | exact hM | rw [if_pos (by first | omega | assumption)] | rw [if_neg (by first | omega | (intro h9; simp_all; done))])⟩
     · have hb14' := ne_of_beq_false hb14
       refine seq_do (v := .bool false) hA rfl rfl rfl (does_bin rfl rfl (fun w => (bin_eql w).trans (by rw [hb14]))) ?_
       intro a hA
       refine seq_do hA rfl rfl rfl (does_assign rfl) ?_
       intro a hA
       refine seq_end ?_
       refine hK13 _ _ ?_
       refine wp_cond_false (hA.ev rfl) ?_
       refine wp_seq_k (fun K19 hK19 => ?_)
       refine wp_region_lit ?_
       rcases Bool.eq_false_or_eq_true ((mode == 1)) with hb20 | hb20
       · have hb20' := eq_of_beq hb20
         refine seq_do (v := .bool true) hA rfl rfl rfl (does_bin rfl rfl (fun w => (bin_eql w).trans (by rw [hb20]))) ?_
         intro a hA
         refine seq_do hA rfl rfl rfl (does_assign rfl) ?_
         intro a hA
         refine seq_end ?_
         refine hK19 _ _ ?_
         refine wp_cond_true (hA.ev rfl) ?_
         refine wp_region_lit ?_
         refine seq_do hA rfl rfl rfl (m_load1 hM CoE_is1_69 rfl 4 rfl rfl) ?_
         intro a hA
         refine seq_do hA rfl rfl rfl (m_load1 hM CoE_is1_21 rfl 2 rfl rfl) ?_
         intro a hA
         refine seq_call hA rfl rfl rfl (enters_fn rfl rfl hPut.inv) (hPut.run (2 * n) ((put s0 (r)).1) (inst) _ (.obj ge (.cells #[.int .i64 e0] 25) :: .obj ga (.cells #[.int .i64 a0] 3) :: .obj gi (.cells #[.int .i32 inst] 21) :: .obj gm (.cells #[.int .i64 mode] 3) :: .obj gp (.cells #[.func (.func fp) #[] cp.toArray] 69) :: X) T5 hA6 hinst (quietL_cons (quiet_cells (by decide)) (quietL_cons (quiet_cells (by decide)) (quietL_cons (quiet_cells (by decide)) (quietL_cons (quiet_cells (by decide)) (quietL_cons (quiet_cells (by decide)) hqX))))) hM) ?_
         rintro _ w24 ⟨rfl, T21, hA22, hM23⟩
         replace hM : Mg w0 w24 (.obj ge (.cells #[.int .i64 e0] 25) :: .obj ga (.cells #[.int .i64 a0] 3) :: .obj gi (.cells #[.int .i32 inst] 21) :: .obj gm (.cells #[.int .i64 mode] 3) :: .obj gp (.cells #[.func (.func fp) #[] cp.toArray] 69) :: (X ++ T21)) := hM23
         refine ⟨_, rfl, ?_⟩
         intro a hA
         refine seq_end ?_
         refine hK11 _ _ ?_
         refine wp_seq_k (fun K25 hK25 => ?_)
         refine wp_region_lit ?_
         refine seq_do hA rfl rfl rfl (does_assign rfl) ?_
         intro a hA
         refine seq_end ?_
         refine hK25 _ _ ?_
         refine wp_ret ?_
         refine hret _ _ ?_
         refine ends (v := .bool true) hA rfl (.cons (res_tmp rfl) .nil) rfl ?_
         exact ⟨by unfold cstep; repeat (first | rfl | rw [if_pos (by first | omega | assumption)] | rw [if_neg (by first | omega | (intro h9; simp_all; done))]), T21, by unfold cstep; repeat (first | exact hPut.mono _ _ _ _ (by omega) hA22 | rw [if_pos (by first | omega | assumption)] | rw [if_neg (by first | omega | (intro h9; simp_all; done))]), by unfold cstep; repeat (first | exact hM | rw [if_pos (by first | omega | assumption)] | rw [if_neg (by first | omega | (intro h9; simp_all; done))])⟩
       · have hb20' := ne_of_beq_false hb20
         refine seq_do (v := .bool false) hA rfl rfl rfl (does_bin rfl rfl (fun w => (bin_eql w).trans (by rw [hb20]))) ?_
         intro a hA
         refine seq_do hA rfl rfl rfl (does_assign rfl) ?_
         intro a hA
         refine seq_end ?_
         refine hK19 _ _ ?_
         refine wp_cond_false (hA.ev rfl) ?_
         refine wp_skip ?_
         refine hK11 _ _ ?_
         refine wp_seq_k (fun K26 hK26 => ?_)
         refine wp_region_lit ?_
         refine seq_do hA rfl rfl rfl (does_assign rfl) ?_
         intro a hA
         refine seq_end ?_
         refine hK26 _ _ ?_
         refine wp_ret ?_
         refine hret _ _ ?_
         refine ends (v := .bool true) hA rfl (.cons (res_tmp rfl) .nil) rfl ?_
         exact ⟨by unfold cstep; repeat (first | rfl | rw [if_pos (by first | omega | assumption)] | rw [if_neg (by first | omega | (intro h9; simp_all; done))]), T5, by unfold cstep; repeat (first | exact hPut.mono _ _ _ _ (by omega) hA6 | rw [if_pos (by first | omega | assumption)] | rw [if_neg (by first | omega | (intro h9; simp_all; done))]), by unfold cstep; repeat (first | exact hM | rw [if_pos (by first | omega | assumption)] | rw [if_neg (by first | omega | (intro h9; simp_all; done))])⟩
 · have hb4' := bne_eq_false_iff_eq.1 hb4
   refine seq_do (v := .bool false) hA rfl rfl rfl (does_bin rfl rfl (fun w => (bin_neq w).trans (by rw [hb4]))) ?_
   intro a hA
   refine seq_do hA rfl rfl rfl (does_move rfl) ?_
   intro a hA
   refine seq_skip hA rfl rfl rfl ?_
   intro a hA
   refine seq_skip hA rfl rfl rfl ?_
   intro a hA
   refine seq_skip hA rfl rfl rfl ?_
   intro a hA
   refine seq_do (v := .bool false) hA rfl rfl rfl (does_pick rfl rfl rfl rfl) ?_
   intro a hA
   refine seq_end ?_
   refine hK3 _ _ ?_
   refine wp_cond_false (hA.ev rfl) ?_
   refine wp_skip ?_
   refine hK2 _ _ ?_
   refine wp_seq_k (fun K27 hK27 => ?_)
   refine wp_seq_k (fun K28 hK28 => ?_)
   refine wp_region_lit ?_
   refine seq_do hA rfl rfl rfl (m_load1 hM CoE_is1_3 rfl 3 rfl rfl) ?_
   intro a hA
   refine seq_end ?_
   refine hK28 _ _ ?_
   refine wp_block ?_
   refine wp_seq_k (fun K29 hK29 => ?_)
   refine wp_region_lit ?_
   rcases Bool.eq_false_or_eq_true ((mode == 0)) with hb30 | hb30
   · have hb30' := eq_of_beq hb30
     refine seq_do (v := .bool true) hA rfl rfl rfl (does_bin rfl rfl (fun w => (bin_eql w).trans (by rw [hb30]))) ?_
     intro a hA
     refine seq_do hA rfl rfl rfl (does_assign rfl) ?_
     intro a hA
     refine seq_end ?_
     refine hK29 _ _ ?_
     refine wp_cond_true (hA.ev rfl) ?_
     refine wp_seq_k (fun K31 hK31 => ?_)
     refine wp_region_lit ?_
     refine seq_do hA rfl rfl rfl (does_move rfl) ?_
     intro a hA
     refine s_store (us := [.int .i64 at_]) (L' := (.obj ge (.cells #[.int .i64 e0] 25) :: .obj ga (.cells #[.int .i64 at_] 3) :: .obj gi (.cells #[.int .i32 inst] 21) :: .obj gm (.cells #[.int .i64 mode] 3) :: .obj gp (.cells #[.func (.func fp) #[] cp.toArray] 69) :: (X ++ T0))) hA hM rfl rfl (m_store rfl rfl rfl (by kernel_rfl) hM 1 rfl rfl rfl) 1 rfl rfl rfl ?_
     intro w32 hM
     refine s_store (us := [.int .i64 6]) (L' := (.obj ge (.cells #[.int .i64 6] 25) :: .obj ga (.cells #[.int .i64 at_] 3) :: .obj gi (.cells #[.int .i32 inst] 21) :: .obj gm (.cells #[.int .i64 mode] 3) :: .obj gp (.cells #[.func (.func fp) #[] cp.toArray] 69) :: (X ++ T0))) hA hM rfl rfl (m_store rfl rfl rfl (by kernel_rfl) hM 0 rfl rfl rfl) 0 rfl rfl rfl ?_
     intro w33 hM
     refine seq_end ?_
     refine hK31 _ _ ?_
     refine wp_seq_k (fun K34 hK34 => ?_)
     refine wp_region_lit ?_
     refine seq_do hA rfl rfl rfl (does_assign rfl) ?_
     intro a hA
     refine seq_end ?_
     refine hK34 _ _ ?_
     refine wp_ret ?_
     refine hret _ _ ?_
     refine ends (v := .bool false) hA rfl (.cons (res_tmp rfl) .nil) rfl ?_
     exact ⟨by unfold cstep; repeat (first | rfl | rw [if_pos (by first | omega | assumption)] | rw [if_neg (by first | omega | (intro h9; simp_all; done))]), T0, by unfold cstep; repeat (first | exact hPut.mono _ _ _ _ (by omega) hA0 | rw [if_pos (by first | omega | assumption)] | rw [if_neg (by first | omega | (intro h9; simp_all; done))]), by unfold cstep; repeat (first | exact hM | rw [if_pos (by first | omega | assumption)] | rw [if_neg (by first | omega | (intro h9; simp_all; done))])⟩
   · have hb30' := ne_of_beq_false hb30
     refine seq_do (v := .bool false) hA rfl rfl rfl (does_bin rfl rfl (fun w => (bin_eql w).trans (by rw [hb30]))) ?_
     intro a hA
     refine seq_do hA rfl rfl rfl (does_assign rfl) ?_
     intro a hA
     refine seq_end ?_
     refine hK29 _ _ ?_
     refine wp_cond_false (hA.ev rfl) ?_
     refine wp_seq_k (fun K35 hK35 => ?_)
     refine wp_region_lit ?_
     rcases Bool.eq_false_or_eq_true ((mode == 1)) with hb36 | hb36
     · have hb36' := eq_of_beq hb36
       refine seq_do (v := .bool true) hA rfl rfl rfl (does_bin rfl rfl (fun w => (bin_eql w).trans (by rw [hb36]))) ?_
       intro a hA
       refine seq_do hA rfl rfl rfl (does_assign rfl) ?_
       intro a hA
       refine seq_end ?_
       refine hK35 _ _ ?_
       refine wp_cond_true (hA.ev rfl) ?_
       refine wp_region_lit ?_
       refine seq_do hA rfl rfl rfl (m_load1 hM CoE_is1_69 rfl 4 rfl rfl) ?_
       intro a hA
       refine seq_do hA rfl rfl rfl (m_load1 hM CoE_is1_21 rfl 2 rfl rfl) ?_
       intro a hA
       refine seq_call hA rfl rfl rfl (enters_fn rfl rfl hPut.inv) (hPut.run (2 * n + 1) s0 (inst) _ (.obj ge (.cells #[.int .i64 e0] 25) :: .obj ga (.cells #[.int .i64 a0] 3) :: .obj gi (.cells #[.int .i32 inst] 21) :: .obj gm (.cells #[.int .i64 mode] 3) :: .obj gp (.cells #[.func (.func fp) #[] cp.toArray] 69) :: X) T0 hA0 hinst (quietL_cons (quiet_cells (by decide)) (quietL_cons (quiet_cells (by decide)) (quietL_cons (quiet_cells (by decide)) (quietL_cons (quiet_cells (by decide)) (quietL_cons (quiet_cells (by decide)) hqX))))) hM) ?_
       rintro _ w40 ⟨rfl, T37, hA38, hM39⟩
       replace hM : Mg w0 w40 (.obj ge (.cells #[.int .i64 e0] 25) :: .obj ga (.cells #[.int .i64 a0] 3) :: .obj gi (.cells #[.int .i32 inst] 21) :: .obj gm (.cells #[.int .i64 mode] 3) :: .obj gp (.cells #[.func (.func fp) #[] cp.toArray] 69) :: (X ++ T37)) := hM39
       refine ⟨_, rfl, ?_⟩
       intro a hA
       refine seq_end ?_
       refine hK27 _ _ ?_
       refine wp_seq_k (fun K41 hK41 => ?_)
       refine wp_region_lit ?_
       refine seq_do hA rfl rfl rfl (does_assign rfl) ?_
       intro a hA
       refine seq_end ?_
       refine hK41 _ _ ?_
       refine wp_ret ?_
       refine hret _ _ ?_
       refine ends (v := .bool true) hA rfl (.cons (res_tmp rfl) .nil) rfl ?_
       exact ⟨by unfold cstep; repeat (first | rfl | rw [if_pos (by first | omega | assumption)] | rw [if_neg (by first | omega | (intro h9; simp_all; done))]), T37, by unfold cstep; repeat (first | exact hPut.mono _ _ _ _ (by omega) hA38 | rw [if_pos (by first | omega | assumption)] | rw [if_neg (by first | omega | (intro h9; simp_all; done))]), by unfold cstep; repeat (first | exact hM | rw [if_pos (by first | omega | assumption)] | rw [if_neg (by first | omega | (intro h9; simp_all; done))])⟩
     · have hb36' := ne_of_beq_false hb36
       refine seq_do (v := .bool false) hA rfl rfl rfl (does_bin rfl rfl (fun w => (bin_eql w).trans (by rw [hb36]))) ?_
       intro a hA
       refine seq_do hA rfl rfl rfl (does_assign rfl) ?_
       intro a hA
       refine seq_end ?_
       refine hK35 _ _ ?_
       refine wp_cond_false (hA.ev rfl) ?_
       refine wp_skip ?_
       refine hK27 _ _ ?_
       refine wp_seq_k (fun K42 hK42 => ?_)
       refine wp_region_lit ?_
       refine seq_do hA rfl rfl rfl (does_assign rfl) ?_
       intro a hA
       refine seq_end ?_
       refine hK42 _ _ ?_
       refine wp_ret ?_
       refine hret _ _ ?_
       refine ends (v := .bool true) hA rfl (.cons (res_tmp rfl) .nil) rfl ?_
       exact ⟨by unfold cstep; repeat (first | rfl | rw [if_pos (by first | omega | assumption)] | rw [if_neg (by first | omega | (intro h9; simp_all; done))]), T0, by unfold cstep; repeat (first | exact hPut.mono _ _ _ _ (by omega) hA0 | rw [if_pos (by first | omega | assumption)] | rw [if_neg (by first | omega | (intro h9; simp_all; done))]), by unfold cstep; repeat (first | exact hM | rw [if_pos (by first | omega | assumption)] | rw [if_neg (by first | omega | (intro h9; simp_all; done))])⟩
/-- What carry's visitor holds. -/
def Ac {σ : Type} (A : Nat → σ → List Ck → Prop) (ge ga gi gm gp : Nat) (fp : FuncId) (cp : List Value) (mode inst : Int) (n : Nat) (x : σ × Int × Int) (T : List Ck) : Prop := ∃ T1, A (2 * n) x.1 T1 ∧ T = boxes ge ga gi gm gp fp cp mode inst x.2.1 x.2.2 ++ T1
theorem carry_visits {w0 : World} {ge ga gi gm gp : Nat} {mode inst : Int} {fp : FuncId} {cp : List Value} {σ : Type} {A : Nat → σ → List Ck → Prop} {put : σ → Int → σ × Bool} (hPut : Puts Try.prog w0 fp cp A put) (hinst : 0 ≤ inst ∧ inst ≤ 1114111 ∧ ¬ (55296 ≤ inst ∧ inst ≤ 57343)) : Visits Try.prog w0 69 [.pointer (some ⟨gp, 0, none⟩), .pointer (some ⟨gm, 0, none⟩), .pointer (some ⟨ga, 0, none⟩), .pointer (some ⟨ge, 0, none⟩), .pointer (some ⟨gi, 0, none⟩)] (Ac A ge ga gi gm gp fp cp mode inst) (cstep put mode inst) := by
  refine ⟨fun us w => by kernel_rfl, fun n m s T h ⟨T1, h1, h2⟩ => ⟨T1, hPut.mono _ _ _ _ (by omega) h1, h2⟩, ?_⟩
  rintro n ⟨s, a0, e0⟩ at_ r w X T ⟨T1, hA1, rfl⟩ hr hqX hM
  refine (carry1_any (n := n) hPut hinst hqX hA1 hr (hM.perm (perm_in X _ T1))).mono ?_
  rintro e w' ⟨rfl, T', hA', hM'⟩
  exact ⟨rfl, _, ⟨T', hA', rfl⟩, hM'.perm (perm_in _ X T')⟩
theorem carry_any {w0 w : World} {mode inst : Int} {fu : FuncId} {cu : List Value} {U : List Ck} {N : Nat} {us : List (Int × Int)} (hU : Tells Try.prog w0 fu cu U N us) {fp : FuncId} {cp : List Value} {σ : Type} {A : Nat → σ → List Ck → Prop} {put : σ → Int → σ × Bool} (hPut : Puts Try.prog w0 fp cp A put) (hinst : 0 ≤ inst ∧ inst ≤ 1114111 ∧ ¬ (55296 ≤ inst ∧ inst ≤ 57343)) {s0 : σ} {X T0 : List Ck} (hqX : ∀ d ∈ X, quietC d) (hA0 : A (2 * N) s0 T0) (hM0 : Mg w0 w (U ++ (X ++ T0))) {R : σ × Int × Int} (hR : runV (cstep put mode inst) (s0, 0, 0) us = R) : Calls Try.prog 37 #[.func (.func fu) #[] cu.toArray, .func (.func fp) #[] cp.toArray, .int .i64 mode, .int .i32 inst] w (fun e w' => e = .returned (.tuple #[.int .i64 R.2.1, .int .i64 R.2.2]) ∧ ∃ T', A 0 R.1 T' ∧ Mg w0 w' (U ++ (X ++ T'))) := by
 have hM : Mg w0 w ((U ++ (X ++ T0))) := hM0
 refine walk_of (l := [(0, .func (.func fu) #[] cu.toArray), (1, .func (.func fp) #[] cp.toArray), (2, .int .i64 mode), (3, .int .i32 inst)]) Try.func37 rfl Try.ntmps37 rfl rfl ?_
 intro Q hret hnorm hP a hA
 refine wp_seq_k (fun K1 hK1 => ?_)
 refine wp_region_lit ?_
 refine s_new (vs := [.func (.func fp) #[] cp.toArray]) (t := 69) hA hM rfl rfl rfl (fun g => .pointer (some ⟨g, 0, none⟩)) (does_box rfl rfl) (by decide) ?_
 intro g2 w3 hM a hA
 refine s_new (vs := [.int .i64 mode]) (t := 3) hA hM rfl rfl rfl (fun g => .pointer (some ⟨g, 0, none⟩)) (does_box rfl rfl) (by decide) ?_
 intro g4 w5 hM a hA
 refine s_new (vs := [.int .i32 inst]) (t := 21) hA hM rfl rfl rfl (fun g => .pointer (some ⟨g, 0, none⟩)) (does_box rfl rfl) (by decide) ?_
 intro g6 w7 hM a hA
 refine s_new (vs := [.int .i64 0]) (t := 3) hA hM rfl rfl rfl (fun g => .pointer (some ⟨g, 0, none⟩)) (does_alloc (z := .int .i64 0) (by kernel_rfl) rfl) (by decide) ?_
 intro g8 w9 hM a hA
 refine s_new (vs := [.int .i64 0]) (t := 25) hA hM rfl rfl rfl (fun g => .pointer (some ⟨g, 0, none⟩)) (does_alloc (z := .int .i64 0) (by kernel_rfl) rfl) (by decide) ?_
 intro g10 w11 hM a hA
 refine seq_end ?_
 refine hK1 _ _ ?_
 refine wp_seq_k (fun K12 hK12 => ?_)
 refine wp_region_lit ?_
 refine seq_do hA rfl rfl rfl (does_move rfl) ?_
 intro a hA
 refine seq_do (v := .func (.func 69) #[] [.pointer (some ⟨g2, 0, none⟩), .pointer (some ⟨g4, 0, none⟩), .pointer (some ⟨g8, 0, none⟩), .pointer (some ⟨g10, 0, none⟩), .pointer (some ⟨g6, 0, none⟩)].toArray) hA rfl rfl rfl (does_makeFunc rfl) ?_
 intro a hA
 refine seq_call hA rfl rfl rfl (enters_fn rfl rfl hU.inv) (hU.run (Ac A g10 g8 g6 g4 g2 fp cp mode inst) (cstep put mode inst) 69 [.pointer (some ⟨g2, 0, none⟩), .pointer (some ⟨g4, 0, none⟩), .pointer (some ⟨g8, 0, none⟩), .pointer (some ⟨g10, 0, none⟩), .pointer (some ⟨g6, 0, none⟩)] (s0, 0, 0) _ X (boxes g10 g8 g6 g4 g2 fp cp mode inst 0 0 ++ T0) (carry_visits hPut hinst) ⟨T0, hA0, rfl⟩ hqX (hM.perm (perm_out (boxes g10 g8 g6 g4 g2 fp cp mode inst 0 0) U X T0))) ?_
 rintro _ w18 ⟨rfl, T13, hA14, hM15⟩
 rw [hR] at hA14
 obtain ⟨T16, hA17, rfl⟩ := hA14
 replace hM : Mg w0 w18 (.obj g10 (.cells #[.int .i64 R.2.2] 25) :: .obj g8 (.cells #[.int .i64 R.2.1] 3) :: .obj g6 (.cells #[.int .i32 inst] 21) :: .obj g4 (.cells #[.int .i64 mode] 3) :: .obj g2 (.cells #[.func (.func fp) #[] cp.toArray] 69) :: (U ++ (X ++ T16))) := (hM15.perm (perm_out (boxes g10 g8 g6 g4 g2 fp cp mode inst R.2.1 R.2.2) U X T16).symm)
 refine ⟨_, rfl, ?_⟩
 intro a hA
 refine seq_end ?_
 refine hK12 _ _ ?_
 refine wp_seq_k (fun K19 hK19 => ?_)
 refine wp_draw (S := fun w1 => Mg w0 w1 (.obj g10 (.cells #[.int .i64 R.2.2] 25) :: .obj g8 (.cells #[.int .i64 R.2.1] 3) :: [])) (by kernel_rfl) ?_
 replace hM := hM.drew
 refine any_tk hA 0 rfl rfl rfl rfl hP (hM.sub (.cons_cons _ (.cons_cons _ (.cons _ (.cons _ (.cons _ (List.nil_sublist _))))))) (fun w1 hM => m_load1 hM CoE_is1_3 rfl 1 rfl rfl) ?_
 intro a hA
 refine any_tk hA 1 rfl rfl rfl rfl hP (hM.sub (.cons_cons _ (.cons_cons _ (.cons _ (.cons _ (.cons _ (List.nil_sublist _))))))) (fun w1 hM => m_load1 hM CoE_is1_25 rfl 0 rfl rfl) ?_
 intro a hA
 refine any_one (by kernel_rfl) (g_store (us := [.int .i64 R.2.1]) (L' := (.obj g10 (.cells #[.int .i64 R.2.2] 25) :: .obj g8 (.cells #[.int .i64 R.2.1] 3) :: .obj g6 (.cells #[.int .i32 inst] 21) :: .obj g4 (.cells #[.int .i64 mode] 3) :: .obj g2 (.cells #[.func (.func fp) #[] cp.toArray] 69) :: (U ++ (X ++ T16)))) hA hM 2 rfl rfl rfl (m_store rfl rfl rfl (by kernel_rfl) hM 1 rfl rfl rfl) 1 rfl rfl rfl ?_)
 intro w20 hM
 refine ⟨(hM.sub (.cons_cons _ (.cons_cons _ (.cons _ (.cons _ (.cons _ (List.nil_sublist _))))))), ?_⟩
 refine any_one (by kernel_rfl) (g_store (us := [.int .i64 R.2.2]) (L' := (.obj g10 (.cells #[.int .i64 R.2.2] 25) :: .obj g8 (.cells #[.int .i64 R.2.1] 3) :: .obj g6 (.cells #[.int .i32 inst] 21) :: .obj g4 (.cells #[.int .i64 mode] 3) :: .obj g2 (.cells #[.func (.func fp) #[] cp.toArray] 69) :: (U ++ (X ++ T16)))) hA hM 3 rfl rfl rfl (m_store rfl rfl rfl (by kernel_rfl) hM 0 rfl rfl rfl) 0 rfl rfl rfl ?_)
 intro w21 hM
 refine ⟨(hM.sub (.cons_cons _ (.cons_cons _ (.cons _ (.cons _ (.cons _ (List.nil_sublist _))))))), ?_⟩
 refine any_end (by kernel_rfl) ?_
 refine hK19 _ _ ?_
 refine wp_ret ?_
 refine hret _ _ ?_
 refine ends (v := .tuple #[.int .i64 R.2.1, .int .i64 R.2.2]) hA rfl (.cons (res_cell1 hM CoE_is1_3 rfl 1 rfl rfl) (.cons (res_cell1 hM CoE_is1_25 rfl 0 rfl rfl) .nil)) rfl ?_
 exact ⟨rfl, T16, hA17, hM.sub (.cons _ (.cons _ (.cons _ (.cons _ (.cons _ (.refl _))))))⟩
end Go.Proofs.Ytcjgjbaadmohbaa
