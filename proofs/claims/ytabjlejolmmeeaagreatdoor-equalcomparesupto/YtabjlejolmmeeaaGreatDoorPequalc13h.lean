/- Walks of the document's Sound. Walks of sound data. The walk of the document's Sound. Walks of the order of numbers. Walks of small comparisons, and of the hash of lists. Walks of the order of data. Walks of Equal, Cmp and Hash. Walks of the document's sameness and order of numbers. Characters and bytes go by one order. Walks of the document's order of data. -/
import Derived.Test.YtabjlejolmmeeaaGreatDoorPequalc13g
import Derived.Test.YtabjlejolmmeeaaGreatDoorPequalc13c
import Derived.Test.YtabjlejolmmeeaaGreatDoorPequalc13d
import Derived.Test.YtabjlejolmmeeaaGreatDoorPequalc13e
import Derived.Lib.MapLaws
namespace Go.Proofs.YtabjlejolmmeeaaGreatDoor.G
open Go.RowKit
set_option linter.unusedVariables false
set_option linter.unusedSimpArgs false
set_option maxRecDepth 100000
theorem TrV_is1_27 : Is1 Tryz.prog 27 := ⟨⟨_, Tryz.underlying27, rfl⟩, by kernel_rfl⟩
theorem TrV_is1_28 : Is1 Tryz.prog 28 := ⟨⟨_, Tryz.underlying28, rfl⟩, by kernel_rfl⟩
theorem TrV_is1_3 : Is1 Tryz.prog 3 := ⟨⟨_, Tryz.underlying3, rfl⟩, by kernel_rfl⟩
theorem TrV_is1_4 : Is1 Tryz.prog 4 := ⟨⟨_, Tryz.underlying4, rfl⟩, by kernel_rfl⟩
theorem TrV_is1_9 : Is1 Tryz.prog 9 := ⟨⟨_, Tryz.underlying9, rfl⟩, by kernel_rfl⟩
theorem TrV_fld_26_0 : FieldAt Tryz.prog 26 0 0 := ⟨_, _, Tryz.underlying26, rfl, rfl, by kernel_rfl⟩
theorem TrV_fld_26_1 : FieldAt Tryz.prog 26 1 3 := ⟨_, _, Tryz.underlying26, rfl, rfl, by kernel_rfl⟩
theorem TrV_fld_30_0 : FieldAt Tryz.prog 30 0 0 := ⟨_, _, Tryz.underlying30, rfl, rfl, by kernel_rfl⟩
theorem TrV_fld_30_1 : FieldAt Tryz.prog 30 1 1 := ⟨_, _, Tryz.underlying30, rfl, rfl, by kernel_rfl⟩
theorem TrV_fld_30_2 : FieldAt Tryz.prog 30 2 2 := ⟨_, _, Tryz.underlying30, rfl, rfl, by kernel_rfl⟩
theorem TrV_fld_30_3 : FieldAt Tryz.prog 30 3 8 := ⟨_, _, Tryz.underlying30, rfl, rfl, by kernel_rfl⟩
theorem TrV_fld_30_4 : FieldAt Tryz.prog 30 4 9 := ⟨_, _, Tryz.underlying30, rfl, rfl, by kernel_rfl⟩
theorem TrV_fld_30_5 : FieldAt Tryz.prog 30 5 10 := ⟨_, _, Tryz.underlying30, rfl, rfl, by kernel_rfl⟩
theorem TrV_fld_80_1 : FieldAt Tryz.prog 80 1 1 := ⟨_, _, Tryz.underlying80, rfl, rfl, by kernel_rfl⟩
theorem TrV_isS_24 : IsS Tryz.prog 24 3 := ⟨⟨_, Tryz.underlying24⟩, by kernel_rfl⟩
theorem TrV_isS_26 : IsS Tryz.prog 26 6 := ⟨⟨_, Tryz.underlying26⟩, by kernel_rfl⟩
theorem runits1_any {w : World} {so : Option Addr} {cap : Nat} {l : List UInt8} (hb : Rb w so l) (hlen : l.length ≤ 2000000) : Calls Tryz.prog 63 #[.int .i64 1, .slice so l.length cap] w fun e w' => ∃ v, e = .returned v ∧ Mg w w' [.row 80 3 v (jy l).length (qr (jy l))] := by
 have M : Mg w w ([]) := Mg.start w
 refine ze (l := [(0, .int .i64 1), (1, .slice so l.length cap)]) Tryz.func63 rfl Tryz.ntmps63 rfl rfl ?_
 intro Q hret hnorm hP a A
 refine wsk fun K1 hK1 => wrl (sda A λa A↦?_)
 refine qa (hK1 _ _ (wsk fun K2 hK2 => wsk fun K3 hK3 => wrl (sdm A λa A↦?_)))
 refine sdo (v := .bool true) A (qb rfl rfl (fun w => by kernel_rfl)) λa A↦?_
 refine qa (hK3 _ _ (wp_cond_true (A.ev rfl) ?_))
 refine wsk fun K4 hK4 => wrl (sdm A λa A↦?_)
 refine qi A rfl rfl rfl (qf rfl rfl (fun w => by kernel_rfl)) (rutf8_any (hb.below M.bel) hlen) ?_
 rintro _ w5 ⟨v9, rfl, hM9⟩
 replace M : Mg w w5 (.row 80 3 (v9) ((jy l).length) ((qr (jy l))) :: []) := (M.both hM9 (jc jg) (zn (by simp) (jc jg)))
 refine ⟨_, rfl, ?_⟩
 intro a A
 refine sda A λa A↦?_
 refine qa (hK4 _ _ (wp_ret (hret _ _ (en1 A rfl (qh rfl) ?_))))
 exact ⟨_, rfl, M⟩
theorem qjg {w : World} {s : ByteArray} (hs : s.size ≤ 2000000) {r : Bool} (hr : okS s = r) : Calls Tryz.prog 46 #[.string s] w fun e w' => e = .returned (.bool r) ∧ Below w.heap.size w w' := by
 have hul : (jy s.data.toList).length ≤ s.data.toList.length := qjd _ _ _
 have hsl : s.data.toList.length ≤ 2000000 := by rw [xw]; exact hs
 have M : Mg w w ([]) := Mg.start w
 refine ze (l := [(0, .string s)]) Tryz.func46 rfl Tryz.ntmps46 rfl rfl ?_
 intro Q hret hnorm hP a A
 refine wsk fun K1 hK1 => wrl (sda A λa A↦?_)
 refine qa (hK1 _ _ (wsk fun K2 hK2 => wrl (sdm A λa A↦?_)))
 refine s_bytes A M rfl Tryz.underlying9 Tryz.underlying27 Tryz.underlying5 rfl rfl rfl rfl ?_
 intro so3 ca4 w5 hrb6 M a A
 refine qi A rfl rfl rfl (qf rfl rfl (fun w => by kernel_rfl)) (runits1_any hrb6 (by rw [xw]; exact hs)) ?_
 rintro _ w10 ⟨v9, rfl, hM7⟩
 obtain ⟨so8, ca9, rfl⟩ := xp (hM7.has 0 rfl)
 replace M : Mg w w10 (.row 80 3 (.slice so8 ((jy s.data.toList).length) ca9) ((jy s.data.toList).length) ((qr (jy s.data.toList))) :: []) := (M.both hM7 (jc jg) (zn (by simp) (jc jg)))
 refine ⟨_, rfl, ?_⟩
 intro a A
 refine sda A λa A↦?_
 refine qa (hK2 _ _ (wsk fun K11 hK11 => wsk fun K12 hK12 => wrl (sda A λa A↦?_)))
 refine qa (hK12 _ _ (wp_block (jr (fun m_ a w1 => ∃ (i : Nat), m_ = 1 + ((jy s.data.toList).length - i) ∧ (i ≤ (jy s.data.toList).length ∧ ∀ j ua ur, j < i → (jy s.data.toList)[j]? = some (ua, ur) → ur ≠ -1) ∧ Sl a 19 [(0, .string s), (3, .slice so8 ((jy s.data.toList).length) ca9), (4, .int .i64 (((i : Nat) : Int))), (5, .string s), (6, .slice so3 s.data.toList.length ca4), (7, .slice so8 ((jy s.data.toList).length) ca9)] ∧ Mg w w1 (.row 80 3 (.slice so8 ((jy s.data.toList).length) ca9) ((jy s.data.toList).length) ((qr (jy s.data.toList))) :: [])) _ ⟨0, rfl, ⟨Nat.zero_le _, fun j ua ur hj => absurd hj (Nat.not_lt_zero _)⟩, A.keep _ ⟨rfl, rfl, rfl, rfl, rfl, rfl, trivial⟩, M⟩ ?_)))
 clear M A
 rintro m_ a w13 ⟨i, rfl, hinv15, A, M⟩ K14 hK14
 obtain ⟨hi0, hin9⟩ := hinv15
 refine wsk fun K16 hK16 => wsk fun K17 hK17 => wrl ?_
 iterate 2 refine sdm A λa A↦?_
 refine sdo A (qt Tryz.underlying77 rfl) λa A↦?_
 rcases tf (decide (((i : Nat) : Int) < (((jy s.data.toList).length : Nat) : Int))) with hb18 | hb18
 ·
  have hb18' := of_decide_eq_true hb18
  refine sdo (v := .bool true) A (qb rfl rfl (fun w => (zk w).trans (by rw [hb18]))) λa A↦?_
  refine qa (hK17 _ _ (wp_cond_true (A.ev rfl) ?_))
  refine wp_skip (hK16 _ _ (wsk fun K19 hK19 => wp_block (wsk fun K20 hK20 => wrl ?_)))
  iterate 2 refine sdm A λa A↦?_
  obtain ⟨gu, hgu⟩ := row_addr M 0 rfl (by omega)
  obtain ⟨ua, ur, hu⟩ := unit_get (us := jy s.data.toList) (i := i) (by omega)
  refine sdo (v := .pointer (some ⟨gu, i * 3, none⟩)) A (does_indexX Tryz.underlying77 (by kernel_rfl) rfl rfl rfl hgu (show i < (jy s.data.toList).length by omega)) λa A↦?_
  refine sdo (v := .pointer (some ⟨gu, i * 3 + 1, none⟩)) A (qe TrV_fld_80_1 rfl rfl) λa A↦?_
  by_cases hf : ur = -1
  ·
   refine sdo (v := .bool true) A (m_loadX M 0 rfl hgu ((qjc _ i 1 _ hu (by decide)).trans (by rw [if_pos hf]; rfl)) TrV_is1_4 rfl) λa A↦?_
   refine qa (hK20 _ _ (wp_cond_true (A.ev rfl) ?_))
   refine wsk fun K21 hK21 => wrl (sda A λa A↦?_)
   refine qa (hK21 _ _ (wp_ret (hret _ _ (en1 A rfl (qh rfl) ?_))))
   subst hr
   exact ⟨by rw [okS_bad hu hf], M.bel⟩
  ·
   refine sdo (v := .bool false) A (m_loadX M 0 rfl hgu ((qjc _ i 1 _ hu (by decide)).trans (by rw [if_neg hf]; rfl)) TrV_is1_4 rfl) λa A↦?_
   refine qa (hK20 _ _ (wp_cond_false (A.ev rfl) ?_))
   refine wp_skip (hK19 _ _ (wrl (sdm A λa A↦?_)))
   refine sdo (v := .int .i64 (((i + 1 : Nat) : Int))) A (qb rfl rfl (fun w => (xj (vq (by omega) (by omega)) w).trans (by rw [show (((i : Nat) : Int) + 1 : Int) = ((i + 1 : Nat) : Int) from by omega]))) λa A↦?_
   refine sda A λa A↦?_
   refine qa ?_
   refine hK14 _ _ _ (by omega) ⟨i + 1, rfl, ⟨by omega, fun j va vr hj hv => if h9 : j < i then hin9 j va vr h9 hv else by have h8 : j = i := (by omega); subst h8; rw [hu] at hv; injection hv with h7; injection h7 with _ h6; rw [← h6]; exact hf⟩, A.keep _ ⟨rfl, rfl, rfl, rfl, rfl, rfl, trivial⟩, M⟩
 ·
  have hb18' := of_decide_eq_false hb18
  refine sdo (v := .bool false) A (qb rfl rfl (fun w => (zk w).trans (by rw [hb18]))) λa A↦?_
  refine qa (hK17 _ _ (wp_cond_false (A.ev rfl) ?_))
  refine wp_exit (hK11 _ _ (wsk fun K22 hK22 => wrl (sda A λa A↦?_)))
  refine qa (hK22 _ _ (wp_ret (hret _ _ (en1 A rfl (qh rfl) ?_))))
  subst hr
  exact ⟨by rw [okS_good (fun j ua ur hj => hin9 j ua ur (by have := (List.getElem?_eq_some_iff.1 hj).1; omega) hj)], M.bel⟩
theorem risCh_any {w : World} {n : Int} {r : Bool} (hr : ku n = r) : Calls Tryz.prog 49 #[.int .i64 n] w fun e w' => e = .returned (.bool r) ∧ Below w.heap.size w w' := by
 have M : Mg w w ([]) := Mg.start w
 refine ze (l := [(0, .int .i64 n)]) Tryz.func49 rfl Tryz.ntmps49 rfl rfl ?_
 intro Q hret hnorm hP a A
 refine wsk fun K1 hK1 => wrl (sda A λa A↦?_)
 refine qa (hK1 _ _ (wsk fun K2 hK2 => wrl (sdm A λa A↦?_)))
 rcases tf (decide (0 ≤ n)) with hb3 | hb3
 ·
  have hb3' := of_decide_eq_true hb3
  refine sdo (v := .bool true) A (qb rfl rfl (fun w => (xi w).trans (by rw [hb3]))) λa A↦?_
  iterate 2 refine sdm A λa A↦?_
  rcases tf (decide (n ≤ 1114111)) with hb4 | hb4
  ·
   have hb4' := of_decide_eq_true hb4
   refine sdo (v := .bool true) A (qb rfl rfl (fun w => (jz w).trans (by rw [hb4]))) λa A↦?_
   refine sdk (v := .bool true) A λa A↦?_
   iterate 2 refine sdm A λa A↦?_
   rcases tf (decide (n < 55296)) with hb5 | hb5
   ·
    have hb5' := of_decide_eq_true hb5
    refine sdo (v := .bool true) A (qb rfl rfl (fun w => (zk w).trans (by rw [hb5]))) λa A↦?_
    refine sdm A λa A↦?_
    iterate 2 refine qk A rfl rfl rfl λa A↦?_
    iterate 2 refine sdk (v := .bool true) A λa A↦?_
    refine sda A λa A↦?_
    refine qa (hK2 _ _ (wp_ret (hret _ _ (en1 A rfl (qh rfl) ?_))))
    subst hr
    exact ⟨by rw [show ku n = true from by unfold ku; apply decide_eq_true; omega], M.bel⟩
   ·
    have hb5' := of_decide_eq_false hb5
    refine sdo (v := .bool false) A (qb rfl rfl (fun w => (zk w).trans (by rw [hb5]))) λa A↦?_
    iterate 2 refine sdm A λa A↦?_
    rcases tf (decide (57343 < n)) with hb6 | hb6
    ·
     have hb6' := of_decide_eq_true hb6
     refine sdo (v := .bool true) A (qb rfl rfl (fun w => (jd w).trans (by rw [hb6]))) λa A↦?_
     iterate 2 refine sdk (v := .bool true) A λa A↦?_
     refine sda A λa A↦?_
     refine qa (hK2 _ _ (wp_ret (hret _ _ (en1 A rfl (qh rfl) ?_))))
     subst hr
     exact ⟨by rw [show ku n = true from by unfold ku; apply decide_eq_true; omega], M.bel⟩
    ·
     have hb6' := of_decide_eq_false hb6
     refine sdo (v := .bool false) A (qb rfl rfl (fun w => (jd w).trans (by rw [hb6]))) λa A↦?_
     iterate 2 refine sdk (v := .bool false) A λa A↦?_
     refine sda A λa A↦?_
     refine qa (hK2 _ _ (wp_ret (hret _ _ (en1 A rfl (qh rfl) ?_))))
     subst hr
     exact ⟨by rw [show ku n = false from by unfold ku; apply decide_eq_false; omega], M.bel⟩
  ·
   have hb4' := of_decide_eq_false hb4
   refine sdo (v := .bool false) A (qb rfl rfl (fun w => (jz w).trans (by rw [hb4]))) λa A↦?_
   refine sdk (v := .bool false) A λa A↦?_
   refine sdm A λa A↦?_
   iterate 3 refine qk A rfl rfl rfl λa A↦?_
   iterate 2 refine vj A rfl rfl rfl λa A↦?_
   refine qk A rfl rfl rfl λa A↦?_
   refine sdk (v := .bool false) A λa A↦?_
   refine sda A λa A↦?_
   refine qa (hK2 _ _ (wp_ret (hret _ _ (en1 A rfl (qh rfl) ?_))))
   subst hr
   exact ⟨by rw [show ku n = false from by unfold ku; apply decide_eq_false; omega], M.bel⟩
 ·
  have hb3' := of_decide_eq_false hb3
  refine sdo (v := .bool false) A (qb rfl rfl (fun w => (xi w).trans (by rw [hb3]))) λa A↦?_
  refine sdm A λa A↦?_
  iterate 2 refine qk A rfl rfl rfl λa A↦?_
  refine sdk (v := .bool false) A λa A↦?_
  refine sdm A λa A↦?_
  iterate 3 refine qk A rfl rfl rfl λa A↦?_
  iterate 2 refine vj A rfl rfl rfl λa A↦?_
  refine qk A rfl rfl rfl λa A↦?_
  refine sdk (v := .bool false) A λa A↦?_
  refine sda A λa A↦?_
  refine qa (hK2 _ _ (wp_ret (hret _ _ (en1 A rfl (qh rfl) ?_))))
  subst hr
  exact ⟨by rw [show ku n = false from by unfold ku; apply decide_eq_false; omega], M.bel⟩
/-- Sound by its kind, asked in the document's order. -/
def vm (k n : Int) (q : Q6) (s : ByteArray) (mr ml : Nat) : Bool :=
 if k < 1 ∨ 11 < k ∨ okS s = false then false
 else if k = 3 ∧ jw q = false then false
 else if k ≠ 3 ∧ (kg q.b1 q.t1.length q.q1.length = false ∨ kg q.b2 q.t2.length q.q2.length = false) then false
 else if s ≠ ⟨#[]⟩ ∧ k ≠ 5 ∧ k ≠ 6 ∧ k ≠ 11 then false
 else if 0 < mr ∧ k ≠ 7 then false
 else if k = 2 ∧ n ≠ 0 ∧ n ≠ 1 then false
 else if k = 4 ∧ ku n = false then false
 else if k ≠ 2 ∧ k ≠ 4 ∧ n ≠ 0 then false
 else if k = 8 then decide (ml = 2)
 else decide (k = 9 ∨ ml = 0)
theorem okS_nil : okS ⟨#[]⟩ = true := by unfold okS; rfl
theorem zg (k n : Int) (q : Q6) (s : ByteArray) (mr ml : Nat) : zd k n q s mr ml = vm k n q s mr ml := by
 have hv : s = ⟨#[]⟩ → okS s = true := by rintro rfl; exact okS_nil
 have hn0 : kg false 0 0 = true := rfl
 unfold zd vm
 by_cases hk : k < 1 ∨ 11 < k
 ·
  rw [if_pos (show k < 1 ∨ 11 < k ∨ okS s = false by omega)]
  repeat (rw [if_neg (by omega)])
 ·
  have h11 : k = 1 ∨ k = 2 ∨ k = 3 ∨ k = 4 ∨ k = 5 ∨ k = 6 ∨ k = 7 ∨ k = 8 ∨ k = 9 ∨ k = 10 ∨ k = 11 := by omega
  simp only [jo, hn0]
  generalize kg q.b1 q.t1.length q.q1.length = B1
  generalize kg q.b2 q.t2.length q.q2.length = B2
  generalize jw q = S1
  generalize ku n = S2
  by_cases hs : s = ⟨#[]⟩
  ·
   rw [hv hs]
   have hs2 : ¬ s ≠ ⟨#[]⟩ := fun h => h hs
   rcases h11 with h | h | h | h | h | h | h | h | h | h | h <;> subst h <;> cases B1 <;> cases B2 <;> cases S1 <;> cases S2 <;> simp [hs] <;> by_cases hm : mr = 0 <;> simp [hm] <;> by_cases hn : n = 0 <;> simp [hn] <;> first | omega | (by_cases hn1 : n = 1 <;> simp [hn1]) | skip
  ·
   cases hV : okS s <;> rcases h11 with h | h | h | h | h | h | h | h | h | h | h <;> subst h <;> cases B1 <;> cases B2 <;> cases S1 <;> cases S2 <;> simp [hs] <;> by_cases hm : mr = 0 <;> simp [hm] <;> by_cases hn : n = 0 <;> simp [hn] <;> first | omega | skip
section
variable {k n : Int} {q : Q6} {s : ByteArray} {mr ml : Nat}
def ShA (k : Int) (s : ByteArray) : Prop := 1 ≤ k ∧ k ≤ 11 ∧ okS s = true
def ShB (k : Int) (q : Q6) : Prop := (k = 3 → jw q = true) ∧ (k ≠ 3 → kg q.b1 q.t1.length q.q1.length = true ∧ kg q.b2 q.t2.length q.q2.length = true)
def ShC (k : Int) (s : ByteArray) : Prop := s = ⟨#[]⟩ ∨ k = 5 ∨ k = 6 ∨ k = 11
def ShD (k : Int) (mr : Nat) : Prop := mr = 0 ∨ k = 7
def ShE (k n : Int) : Prop := (k = 2 → n = 0 ∨ n = 1) ∧ (k = 4 → ku n = true) ∧ (k ≠ 2 → k ≠ 4 → n = 0)
theorem sh1 (h : k < 1 ∨ 11 < k ∨ okS s = false) : vm k n q s mr ml = false := by unfold vm; rw [if_pos h]
theorem shA (a : ShA k s) : ¬ (k < 1 ∨ 11 < k ∨ okS s = false) := fun e => by
 rcases e with e | e | e
 ·
  have := a.1; omega
 ·
  have := a.2.1; omega
 ·
  rw [a.2.2] at e; cases e
theorem sh2 (a : ShA k s) (h : k = 3) (S : jw q = false) : vm k n q s mr ml = false := by unfold vm; rw [if_neg (shA a), if_pos ⟨h, S⟩]
theorem sh3 (a : ShA k s) (h : k ≠ 3) (S : kg q.b1 q.t1.length q.q1.length = false ∨ kg q.b2 q.t2.length q.q2.length = false) : vm k n q s mr ml = false := by unfold vm; rw [if_neg (shA a), if_neg (fun e => h e.1), if_pos ⟨h, S⟩]
theorem shB1 (b : ShB k q) : ¬ (k = 3 ∧ jw q = false) := fun e => by have := b.1 e.1; rw [e.2] at this; cases this
theorem shB2 (b : ShB k q) : ¬ (k ≠ 3 ∧ (kg q.b1 q.t1.length q.q1.length = false ∨ kg q.b2 q.t2.length q.q2.length = false)) := fun e => by
 have := b.2 e.1
 rcases e.2 with h | h
 ·
  rw [this.1] at h; cases h
 ·
  rw [this.2] at h; cases h
theorem sh4 (a : ShA k s) (b : ShB k q) (h : s ≠ ⟨#[]⟩ ∧ k ≠ 5 ∧ k ≠ 6 ∧ k ≠ 11) : vm k n q s mr ml = false := by unfold vm; rw [if_neg (shA a), if_neg (shB1 b), if_neg (shB2 b), if_pos h]
theorem shC (c : ShC k s) : ¬ (s ≠ ⟨#[]⟩ ∧ k ≠ 5 ∧ k ≠ 6 ∧ k ≠ 11) := fun e => by rcases c with h | h | h | h <;> first | exact e.1 h | exact e.2.1 h | exact e.2.2.1 h | exact e.2.2.2 h
theorem sh5 (a : ShA k s) (b : ShB k q) (c : ShC k s) (h : 0 < mr ∧ k ≠ 7) : vm k n q s mr ml = false := by unfold vm; rw [if_neg (shA a), if_neg (shB1 b), if_neg (shB2 b), if_neg (shC c), if_pos h]
theorem shD (d : ShD k mr) : ¬ (0 < mr ∧ k ≠ 7) := fun e => by rcases d with h | h <;> omega
theorem sh6 (a : ShA k s) (b : ShB k q) (c : ShC k s) (d : ShD k mr) (h : (k = 2 ∧ n ≠ 0 ∧ n ≠ 1) ∨ (k = 4 ∧ ku n = false) ∨ (k ≠ 2 ∧ k ≠ 4 ∧ n ≠ 0)) : vm k n q s mr ml = false := by
 unfold vm
 rw [if_neg (shA a), if_neg (shB1 b), if_neg (shB2 b), if_neg (shC c), if_neg (shD d)]
 rcases h with h | h | h
 ·
  rw [if_pos h]
 ·
  rw [if_neg (by omega), if_pos h]
 ·
  rw [if_neg (by omega), if_neg (fun e => h.2.1 e.1), if_pos h]
theorem sh9 (a : ShA k s) (b : ShB k q) (c : ShC k s) (d : ShD k mr) (e : ShE k n) : vm k n q s mr ml = if k = 8 then decide (ml = 2) else decide (k = 9 ∨ ml = 0) := by
 unfold vm
 have e1 := e.1
 have e3 := e.2.2
 rw [if_neg (shA a), if_neg (shB1 b), if_neg (shB2 b), if_neg (shC c), if_neg (shD d), if_neg (fun h => by have := e1 h.1; omega), if_neg (fun h => by have := e.2.1 h.1; rw [h.2] at this; cases this), if_neg (fun h => by have := e3 h.1 h.2.1; omega)]
end
theorem qjh {w : World} {d : Nd} {ts : List Dt} (hok : NdOk w d) (hs2 : d.s.size ≤ 2000000) (hlen : ts.length ≤ 9223372036854775807) {r : Bool} (hr : zd d.k d.n d.y.q d.s d.rl.length ts.length = r) : Calls Tryz.prog 31 #[.agg (d.cells ts.length).toArray] w fun e w' => e = .returned (.bool r) ∧ Below w.heap.size w w' := by
 have hrl : d.rl.length ≤ 9223372036854775807 := Nat.le_trans hok.rcap hok.rmax
 have M : Mg w w ([]) := Mg.start w
 refine ze (l := [(0, .agg (d.cells ts.length).toArray)]) Tryz.func31 rfl Tryz.ntmps31 rfl rfl ?_
 intro Q hret hnorm hP a A
 refine wsk fun K1 hK1 => wrl (xe (vs := [.int .i64 d.k, .int .i64 d.n, .bool d.y.q.b1, .slice d.y.o1 d.y.q.t1.length d.y.c1, .slice d.y.o2 d.y.q.q1.length d.y.c2, .bool d.y.q.b2, .slice d.y.o3 d.y.q.t2.length d.y.c3, .slice d.y.o4 d.y.q.q2.length d.y.c4, .string d.s, .slice d.ro d.rl.length d.rc, .slice d.lo ts.length d.lc]) (t := 30) A M rfl rfl rfl pg (qx rfl rfl) (by decide) ?_)
 intro g2 w3 M a A
 refine sda A λa A↦?_
 refine qa (hK1 _ _ (wsk fun K4 hK4 => wsk fun K5 hK5 => wrl (sdo (v := .pointer (some ⟨g2, 0, none⟩)) A (qe TrV_fld_30_0 rfl rfl) λa A↦?_)))
 refine sdo A (qm M TrV_is1_3 rfl 0 rfl rfl) λa A↦?_
 rcases tf (decide (d.k < 1)) with hb6 | hb6
 ·
  have hb6' := of_decide_eq_true hb6
  refine sdo (v := .bool true) A (qb rfl rfl (fun w => (zk w).trans (by rw [hb6]))) λa A↦?_
  refine sdm A λa A↦?_
  iterate 3 refine qk A rfl rfl rfl λa A↦?_
  refine sdk (v := .bool true) A λa A↦?_
  refine sdm A λa A↦?_
  iterate 4 refine qk A rfl rfl rfl λa A↦?_
  refine sdk (v := .bool true) A λa A↦?_
  refine qa (hK5 _ _ (wp_cond_true (A.ev rfl) ?_))
  refine wsk fun K7 hK7 => wrl (sda A λa A↦?_)
  refine qa (hK7 _ _ (wp_ret (hret _ _ (en1 A rfl (qh rfl) ?_))))
  subst hr
  exact ⟨by rw [show zd d.k d.n d.y.q d.s d.rl.length ts.length = false from by rw [zg]; exact sh1 (by omega)], M.bel⟩
 ·
  have hb6' := of_decide_eq_false hb6
  refine sdo (v := .bool false) A (qb rfl rfl (fun w => (zk w).trans (by rw [hb6]))) λa A↦?_
  refine sdm A λa A↦?_
  refine sdo (v := .pointer (some ⟨g2, 0, none⟩)) A (qe TrV_fld_30_0 rfl rfl) λa A↦?_
  refine sdo A (qm M TrV_is1_3 rfl 0 rfl rfl) λa A↦?_
  rcases tf (decide (11 < d.k)) with hb8 | hb8
  ·
   have hb8' := of_decide_eq_true hb8
   refine sdo (v := .bool true) A (qb rfl rfl (fun w => (jd w).trans (by rw [hb8]))) λa A↦?_
   refine sdk (v := .bool true) A λa A↦?_
   refine sdm A λa A↦?_
   iterate 4 refine qk A rfl rfl rfl λa A↦?_
   refine sdk (v := .bool true) A λa A↦?_
   refine qa (hK5 _ _ (wp_cond_true (A.ev rfl) ?_))
   refine wsk fun K9 hK9 => wrl (sda A λa A↦?_)
   refine qa (hK9 _ _ (wp_ret (hret _ _ (en1 A rfl (qh rfl) ?_))))
   subst hr
   exact ⟨by rw [show zd d.k d.n d.y.q d.s d.rl.length ts.length = false from by rw [zg]; exact sh1 (by omega)], M.bel⟩
  ·
   have hb8' := of_decide_eq_false hb8
   refine sdo (v := .bool false) A (qb rfl rfl (fun w => (jd w).trans (by rw [hb8]))) λa A↦?_
   refine sdk (v := .bool false) A λa A↦?_
   refine sdm A λa A↦?_
   refine sdo (v := .pointer (some ⟨g2, 8, none⟩)) A (qe TrV_fld_30_3 rfl rfl) λa A↦?_
   refine sdo A (qm M TrV_is1_9 rfl 0 rfl rfl) λa A↦?_
   rcases tf (okS d.s) with hb10 | hb10
   ·
    refine qi A rfl rfl rfl (qf rfl rfl (fun w => by kernel_rfl)) (qjg hs2 hb10) ?_
    rintro _ w12 ⟨rfl, hb11⟩
    replace M := M.call hb11
    refine ⟨_, rfl, ?_⟩
    intro a A
    refine sdo (v := .bool false) A (zl rfl zu) λa A↦?_
    refine sdk (v := .bool false) A λa A↦?_
    refine qa (hK5 _ _ (wp_cond_false (A.ev rfl) ?_))
    refine wp_skip (hK4 _ _ (wsk fun K13 hK13 => wsk fun K14 hK14 => wrl (sdo (v := .pointer (some ⟨g2, 0, none⟩)) A (qe TrV_fld_30_0 rfl rfl) λa A↦?_)))
    refine sdo A (qm M TrV_is1_3 rfl 0 rfl rfl) λa A↦?_
    rcases tf ((d.k == 3)) with hb15 | hb15
    ·
     have hb15' := eq_of_beq hb15
     refine sdo (v := .bool true) A (qb rfl rfl (fun w => (ql w).trans (by rw [hb15]))) λa A↦?_
     refine qa (hK14 _ _ (wp_cond_true (A.ev rfl) ?_))
     refine wsk fun K16 hK16 => wrl (sdo (v := .pointer (some ⟨g2, 2, none⟩)) A (qe TrV_fld_30_2 rfl rfl) λa A↦?_)
     refine sdo A (zf M TrV_isS_26 rfl 0 rfl (cs := [.bool d.y.q.b1, .slice d.y.o1 d.y.q.t1.length d.y.c1, .slice d.y.o2 d.y.q.q1.length d.y.c2, .bool d.y.q.b2, .slice d.y.o3 d.y.q.t2.length d.y.c3, .slice d.y.o4 d.y.q.q2.length d.y.c4]) rfl rfl) λa A↦?_
     rcases tf (jw d.y.q) with hb17 | hb17
     ·
      refine qi A rfl rfl rfl (qf rfl rfl (fun w => by kernel_rfl)) (qfi (Nu.below hok.num M.bel) hok.len hb17) ?_
      rintro _ w19 ⟨rfl, hb18⟩
      replace M := M.call hb18
      refine ⟨_, rfl, ?_⟩
      intro a A
      refine sdo (v := .bool false) A (zl rfl zu) λa A↦?_
      refine qa (hK16 _ _ (wp_cond_false (A.ev rfl) ?_))
      refine wp_skip (hK13 _ _ (wsk fun K20 hK20 => wsk fun K21 hK21 => wrl (sdo (v := .pointer (some ⟨g2, 8, none⟩)) A (qe TrV_fld_30_3 rfl rfl) λa A↦?_)))
      refine sdo A (qm M TrV_is1_9 rfl 0 rfl rfl) λa A↦?_
      rcases tf (decide (d.s = ⟨#[]⟩)) with hb22 | hb22
      ·
       have hb22' := of_decide_eq_true hb22
       refine sdo (v := .bool false) A (qb rfl rfl (fun w => (uf Tryz.underlying9 w).trans (by rw [hb22] <;> rfl))) λa A↦?_
       refine sdm A λa A↦?_
       iterate 3 refine qk A rfl rfl rfl λa A↦?_
       refine sdk (v := .bool false) A λa A↦?_
       refine sdm A λa A↦?_
       iterate 3 refine qk A rfl rfl rfl λa A↦?_
       refine sdk (v := .bool false) A λa A↦?_
       refine sdm A λa A↦?_
       iterate 3 refine qk A rfl rfl rfl λa A↦?_
       refine sdk (v := .bool false) A λa A↦?_
       refine qa (hK21 _ _ (wp_cond_false (A.ev rfl) ?_))
       refine wp_skip (hK20 _ _ (wsk fun K23 hK23 => wsk fun K24 hK24 => wrl (sdo (v := .pointer (some ⟨g2, 9, none⟩)) A (qe TrV_fld_30_4 rfl rfl) λa A↦?_)))
       refine sdo A (qm M TrV_is1_27 rfl 0 rfl rfl) λa A↦?_
       refine sdo A (qt Tryz.underlying27 rfl) λa A↦?_
       rcases tf (decide (0 < ((d.rl.length : Nat) : Int))) with hb25 | hb25
       ·
        have hb25' := of_decide_eq_true hb25
        refine sdo (v := .bool true) A (qb rfl rfl (fun w => (jd w).trans (by rw [hb25]))) λa A↦?_
        refine sdm A λa A↦?_
        refine sdo (v := .pointer (some ⟨g2, 0, none⟩)) A (qe TrV_fld_30_0 rfl rfl) λa A↦?_
        refine sdo A (qm M TrV_is1_3 rfl 0 rfl rfl) λa A↦?_
        refine sdo (v := .bool true) A (qb rfl rfl (fun w => (qz w).trans (by rw [show ((d.k != 7)) = true from (bne_iff_ne.2 (by omega))]))) λa A↦?_
        refine sdk (v := .bool true) A λa A↦?_
        refine qa (hK24 _ _ (wp_cond_true (A.ev rfl) ?_))
        refine wsk fun K26 hK26 => wrl (sda A λa A↦?_)
        refine qa (hK26 _ _ (wp_ret (hret _ _ (en1 A rfl (qh rfl) ?_))))
        subst hr
        exact ⟨by rw [show zd d.k d.n d.y.q d.s d.rl.length ts.length = false from by rw [zg]; exact sh5 ⟨by omega, by omega, hb10⟩ ⟨fun _ => hb17, fun h => absurd (show d.k = 3 by omega) h⟩ (.inl hb22') ⟨by omega, by omega⟩], M.bel⟩
       ·
        have hb25' := of_decide_eq_false hb25
        refine sdo (v := .bool false) A (qb rfl rfl (fun w => (jd w).trans (by rw [hb25]))) λa A↦?_
        refine sdm A λa A↦?_
        iterate 3 refine qk A rfl rfl rfl λa A↦?_
        refine sdk (v := .bool false) A λa A↦?_
        refine qa (hK24 _ _ (wp_cond_false (A.ev rfl) ?_))
        refine wp_skip (hK23 _ _ (wsk fun K27 hK27 => wsk fun K28 hK28 => wrl (sdo (v := .pointer (some ⟨g2, 0, none⟩)) A (qe TrV_fld_30_0 rfl rfl) λa A↦?_)))
        refine sdo A (qm M TrV_is1_3 rfl 0 rfl rfl) λa A↦?_
        refine qa (hK28 _ _ (wp_block (wsk fun K29 hK29 => wrl (sdo (v := .bool false) A (qb rfl rfl (fun w => (ql w).trans (by rw [show ((d.k == 2)) = false from (beq_eq_false_iff_ne.2 (by omega))]))) λa A↦?_))))
        refine sda A λa A↦?_
        refine qa (hK29 _ _ (wp_cond_false (A.ev rfl) ?_))
        refine wsk fun K30 hK30 => wrl (sdo (v := .bool false) A (qb rfl rfl (fun w => (ql w).trans (by rw [show ((d.k == 4)) = false from (beq_eq_false_iff_ne.2 (by omega))]))) λa A↦?_)
        refine sda A λa A↦?_
        refine qa (hK30 _ _ (wp_cond_false (A.ev rfl) ?_))
        refine wsk fun K31 hK31 => wrl (sdo (v := .pointer (some ⟨g2, 1, none⟩)) A (qe TrV_fld_30_1 rfl rfl) λa A↦?_)
        refine sdo A (qm M TrV_is1_3 rfl 0 rfl rfl) λa A↦?_
        rcases tf ((d.n != 0)) with hb32 | hb32
        ·
         have hb32' := bne_iff_ne.1 hb32
         refine sdo (v := .bool true) A (qb rfl rfl (fun w => (qz w).trans (by rw [hb32]))) λa A↦?_
         refine qa (hK31 _ _ (wp_cond_true (A.ev rfl) ?_))
         refine wsk fun K33 hK33 => wrl (sda A λa A↦?_)
         refine qa (hK33 _ _ (wp_ret (hret _ _ (en1 A rfl (qh rfl) ?_))))
         subst hr
         exact ⟨by rw [show zd d.k d.n d.y.q d.s d.rl.length ts.length = false from by rw [zg]; exact sh6 ⟨by omega, by omega, hb10⟩ ⟨fun _ => hb17, fun h => absurd (show d.k = 3 by omega) h⟩ (.inl hb22') (.inl (by omega)) (.inr (.inr ⟨by omega, by omega, by omega⟩))], M.bel⟩
        ·
         have hb32' := bne_eq_false_iff_eq.1 hb32
         refine sdo (v := .bool false) A (qb rfl rfl (fun w => (qz w).trans (by rw [hb32]))) λa A↦?_
         refine qa (hK31 _ _ (wp_cond_false (A.ev rfl) ?_))
         refine wp_skip (hK27 _ _ (wsk fun K34 hK34 => wsk fun K35 hK35 => wrl (sdo (v := .pointer (some ⟨g2, 0, none⟩)) A (qe TrV_fld_30_0 rfl rfl) λa A↦?_)))
         refine sdo A (qm M TrV_is1_3 rfl 0 rfl rfl) λa A↦?_
         refine sdo (v := .bool false) A (qb rfl rfl (fun w => (ql w).trans (by rw [show ((d.k == 8)) = false from (beq_eq_false_iff_ne.2 (by omega))]))) λa A↦?_
         refine qa (hK35 _ _ (wp_cond_false (A.ev rfl) ?_))
         refine wp_skip (hK34 _ _ (wsk fun K36 hK36 => wrl (sdo (v := .pointer (some ⟨g2, 0, none⟩)) A (qe TrV_fld_30_0 rfl rfl) λa A↦?_)))
         refine sdo A (qm M TrV_is1_3 rfl 0 rfl rfl) λa A↦?_
         refine sdo (v := .bool false) A (qb rfl rfl (fun w => (ql w).trans (by rw [show ((d.k == 9)) = false from (beq_eq_false_iff_ne.2 (by omega))]))) λa A↦?_
         refine sdm A λa A↦?_
         refine sdo (v := .pointer (some ⟨g2, 10, none⟩)) A (qe TrV_fld_30_5 rfl rfl) λa A↦?_
         refine sdo A (qm M TrV_is1_28 rfl 0 rfl rfl) λa A↦?_
         refine sdo A (qt Tryz.underlying28 rfl) λa A↦?_
         rcases tf ((((ts.length : Nat) : Int) == 0)) with hb37 | hb37
         ·
          have hb37' := eq_of_beq hb37
          refine sdo (v := .bool true) A (qb rfl rfl (fun w => (ql w).trans (by rw [hb37]))) λa A↦?_
          refine sdk (v := .bool true) A λa A↦?_
          refine sda A λa A↦?_
          refine qa (hK36 _ _ (wp_ret (hret _ _ (en1 A rfl (qh rfl) ?_))))
          subst hr
          exact ⟨by rw [show zd d.k d.n d.y.q d.s d.rl.length ts.length = true from by
           rw [zg, sh9 ⟨by omega, by omega, hb10⟩ ⟨fun _ => hb17, fun h => absurd (show d.k = 3 by omega) h⟩ (.inl hb22') (.inl (by omega)) ⟨fun h => by omega, fun h => absurd h (by omega), fun h h2 => by omega⟩]
           rw [if_neg (by omega)]
           exact decide_eq_true (by omega)], M.bel⟩
         ·
          have hb37' := ne_of_beq_false hb37
          refine sdo (v := .bool false) A (qb rfl rfl (fun w => (ql w).trans (by rw [hb37]))) λa A↦?_
          refine sdk (v := .bool false) A λa A↦?_
          refine sda A λa A↦?_
          refine qa (hK36 _ _ (wp_ret (hret _ _ (en1 A rfl (qh rfl) ?_))))
          subst hr
          exact ⟨by rw [show zd d.k d.n d.y.q d.s d.rl.length ts.length = false from by
           rw [zg, sh9 ⟨by omega, by omega, hb10⟩ ⟨fun _ => hb17, fun h => absurd (show d.k = 3 by omega) h⟩ (.inl hb22') (.inl (by omega)) ⟨fun h => by omega, fun h => absurd h (by omega), fun h h2 => by omega⟩]
           rw [if_neg (by omega)]
           exact decide_eq_false (by omega)], M.bel⟩
      ·
       have hb22' := of_decide_eq_false hb22
       refine sdo (v := .bool true) A (qb rfl rfl (fun w => (uf Tryz.underlying9 w).trans (by rw [hb22] <;> rfl))) λa A↦?_
       refine sdm A λa A↦?_
       refine sdo (v := .pointer (some ⟨g2, 0, none⟩)) A (qe TrV_fld_30_0 rfl rfl) λa A↦?_
       refine sdo A (qm M TrV_is1_3 rfl 0 rfl rfl) λa A↦?_
       refine sdo (v := .bool true) A (qb rfl rfl (fun w => (qz w).trans (by rw [show ((d.k != 5)) = true from (bne_iff_ne.2 (by omega))]))) λa A↦?_
       refine sdk (v := .bool true) A λa A↦?_
       refine sdm A λa A↦?_
       refine sdo (v := .pointer (some ⟨g2, 0, none⟩)) A (qe TrV_fld_30_0 rfl rfl) λa A↦?_
       refine sdo A (qm M TrV_is1_3 rfl 0 rfl rfl) λa A↦?_
       refine sdo (v := .bool true) A (qb rfl rfl (fun w => (qz w).trans (by rw [show ((d.k != 6)) = true from (bne_iff_ne.2 (by omega))]))) λa A↦?_
       refine sdk (v := .bool true) A λa A↦?_
       refine sdm A λa A↦?_
       refine sdo (v := .pointer (some ⟨g2, 0, none⟩)) A (qe TrV_fld_30_0 rfl rfl) λa A↦?_
       refine sdo A (qm M TrV_is1_3 rfl 0 rfl rfl) λa A↦?_
       refine sdo (v := .bool true) A (qb rfl rfl (fun w => (qz w).trans (by rw [show ((d.k != 11)) = true from (bne_iff_ne.2 (by omega))]))) λa A↦?_
       refine sdk (v := .bool true) A λa A↦?_
       refine qa (hK21 _ _ (wp_cond_true (A.ev rfl) ?_))
       refine wsk fun K38 hK38 => wrl (sda A λa A↦?_)
       refine qa (hK38 _ _ (wp_ret (hret _ _ (en1 A rfl (qh rfl) ?_))))
       subst hr
       exact ⟨by rw [show zd d.k d.n d.y.q d.s d.rl.length ts.length = false from by rw [zg]; exact sh4 ⟨by omega, by omega, hb10⟩ ⟨fun _ => hb17, fun h => absurd (show d.k = 3 by omega) h⟩ ⟨hb22', by omega, by omega, by omega⟩], M.bel⟩
     ·
      refine qi A rfl rfl rfl (qf rfl rfl (fun w => by kernel_rfl)) (qfi (Nu.below hok.num M.bel) hok.len hb17) ?_
      rintro _ w40 ⟨rfl, hb39⟩
      replace M := M.call hb39
      refine ⟨_, rfl, ?_⟩
      intro a A
      refine sdo (v := .bool true) A (zl rfl zu) λa A↦?_
      refine qa (hK16 _ _ (wp_cond_true (A.ev rfl) ?_))
      refine wsk fun K41 hK41 => wrl (sda A λa A↦?_)
      refine qa (hK41 _ _ (wp_ret (hret _ _ (en1 A rfl (qh rfl) ?_))))
      subst hr
      exact ⟨by rw [show zd d.k d.n d.y.q d.s d.rl.length ts.length = false from by rw [zg]; exact sh2 ⟨by omega, by omega, hb10⟩ (by omega) hb17], M.bel⟩
    ·
     have hb15' := ne_of_beq_false hb15
     refine sdo (v := .bool false) A (qb rfl rfl (fun w => (ql w).trans (by rw [hb15]))) λa A↦?_
     refine qa (hK14 _ _ (wp_cond_false (A.ev rfl) ?_))
     refine wsk fun K42 hK42 => wrl (sdo (v := .pointer (some ⟨g2, 2, none⟩)) A (qe TrV_fld_30_2 rfl rfl) λa A↦?_)
     refine sdo (v := .pointer (some ⟨g2, 2, none⟩)) A (qe TrV_fld_26_0 rfl rfl) λa A↦?_
     refine sdo A (zf M TrV_isS_24 rfl 0 rfl (cs := [.bool d.y.q.b1, .slice d.y.o1 d.y.q.t1.length d.y.c1, .slice d.y.o2 d.y.q.q1.length d.y.c2]) rfl rfl) λa A↦?_
     rcases tf (kg d.y.q.b1 d.y.q.t1.length d.y.q.q1.length) with hb43 | hb43
     ·
      refine qi A rfl rfl rfl (qf rfl rfl (fun w => by kernel_rfl)) (qbc hok.len.l1 hok.len.l2 hb43) ?_
      rintro _ w45 ⟨rfl, hb44⟩
      replace M := M.call hb44
      refine ⟨_, rfl, ?_⟩
      intro a A
      refine sdo (v := .bool false) A (zl rfl zu) λa A↦?_
      refine sdm A λa A↦?_
      refine sdo (v := .pointer (some ⟨g2, 2, none⟩)) A (qe TrV_fld_30_2 rfl rfl) λa A↦?_
      refine sdo (v := .pointer (some ⟨g2, 5, none⟩)) A (qe TrV_fld_26_1 rfl rfl) λa A↦?_
      refine sdo A (zf M TrV_isS_24 rfl 0 rfl (cs := [.bool d.y.q.b2, .slice d.y.o3 d.y.q.t2.length d.y.c3, .slice d.y.o4 d.y.q.q2.length d.y.c4]) rfl rfl) λa A↦?_
      rcases tf (kg d.y.q.b2 d.y.q.t2.length d.y.q.q2.length) with hb46 | hb46
      ·
       refine qi A rfl rfl rfl (qf rfl rfl (fun w => by kernel_rfl)) (qbc hok.len.l3 hok.len.l4 hb46) ?_
       rintro _ w48 ⟨rfl, hb47⟩
       replace M := M.call hb47
       refine ⟨_, rfl, ?_⟩
       intro a A
       refine sdo (v := .bool false) A (zl rfl zu) λa A↦?_
       refine sdk (v := .bool false) A λa A↦?_
       refine qa (hK42 _ _ (wp_cond_false (A.ev rfl) ?_))
       refine wp_skip (hK13 _ _ (wsk fun K49 hK49 => wsk fun K50 hK50 => wrl (sdo (v := .pointer (some ⟨g2, 8, none⟩)) A (qe TrV_fld_30_3 rfl rfl) λa A↦?_)))
       refine sdo A (qm M TrV_is1_9 rfl 0 rfl rfl) λa A↦?_
       rcases tf (decide (d.s = ⟨#[]⟩)) with hb51 | hb51
       ·
        have hb51' := of_decide_eq_true hb51
        refine sdo (v := .bool false) A (qb rfl rfl (fun w => (uf Tryz.underlying9 w).trans (by rw [hb51] <;> rfl))) λa A↦?_
        refine sdm A λa A↦?_
        iterate 3 refine qk A rfl rfl rfl λa A↦?_
        refine sdk (v := .bool false) A λa A↦?_
        refine sdm A λa A↦?_
        iterate 3 refine qk A rfl rfl rfl λa A↦?_
        refine sdk (v := .bool false) A λa A↦?_
        refine sdm A λa A↦?_
        iterate 3 refine qk A rfl rfl rfl λa A↦?_
        refine sdk (v := .bool false) A λa A↦?_
        refine qa (hK50 _ _ (wp_cond_false (A.ev rfl) ?_))
        refine wp_skip (hK49 _ _ (wsk fun K52 hK52 => wsk fun K53 hK53 => wrl (sdo (v := .pointer (some ⟨g2, 9, none⟩)) A (qe TrV_fld_30_4 rfl rfl) λa A↦?_)))
        refine sdo A (qm M TrV_is1_27 rfl 0 rfl rfl) λa A↦?_
        refine sdo A (qt Tryz.underlying27 rfl) λa A↦?_
        rcases tf (decide (0 < ((d.rl.length : Nat) : Int))) with hb54 | hb54
        ·
         have hb54' := of_decide_eq_true hb54
         refine sdo (v := .bool true) A (qb rfl rfl (fun w => (jd w).trans (by rw [hb54]))) λa A↦?_
         refine sdm A λa A↦?_
         refine sdo (v := .pointer (some ⟨g2, 0, none⟩)) A (qe TrV_fld_30_0 rfl rfl) λa A↦?_
         refine sdo A (qm M TrV_is1_3 rfl 0 rfl rfl) λa A↦?_
         rcases tf ((d.k != 7)) with hb55 | hb55
         ·
          have hb55' := bne_iff_ne.1 hb55
          refine sdo (v := .bool true) A (qb rfl rfl (fun w => (qz w).trans (by rw [hb55]))) λa A↦?_
          refine sdk (v := .bool true) A λa A↦?_
          refine qa (hK53 _ _ (wp_cond_true (A.ev rfl) ?_))
          refine wsk fun K56 hK56 => wrl (sda A λa A↦?_)
          refine qa (hK56 _ _ (wp_ret (hret _ _ (en1 A rfl (qh rfl) ?_))))
          subst hr
          exact ⟨by rw [show zd d.k d.n d.y.q d.s d.rl.length ts.length = false from by rw [zg]; exact sh5 ⟨by omega, by omega, hb10⟩ ⟨fun h => absurd h (by omega), fun _ => ⟨hb43, hb46⟩⟩ (.inl hb51') ⟨by omega, by omega⟩], M.bel⟩
         ·
          have hb55' := bne_eq_false_iff_eq.1 hb55
          refine sdo (v := .bool false) A (qb rfl rfl (fun w => (qz w).trans (by rw [hb55]))) λa A↦?_
          refine sdk (v := .bool false) A λa A↦?_
          refine qa (hK53 _ _ (wp_cond_false (A.ev rfl) ?_))
          refine wp_skip (hK52 _ _ (wsk fun K57 hK57 => wsk fun K58 hK58 => wrl (sdo (v := .pointer (some ⟨g2, 0, none⟩)) A (qe TrV_fld_30_0 rfl rfl) λa A↦?_)))
          refine sdo A (qm M TrV_is1_3 rfl 0 rfl rfl) λa A↦?_
          refine qa (hK58 _ _ (wp_block (wsk fun K59 hK59 => wrl (sdo (v := .bool false) A (qb rfl rfl (fun w => (ql w).trans (by rw [show ((d.k == 2)) = false from (beq_eq_false_iff_ne.2 (by omega))]))) λa A↦?_))))
          refine sda A λa A↦?_
          refine qa (hK59 _ _ (wp_cond_false (A.ev rfl) ?_))
          refine wsk fun K60 hK60 => wrl (sdo (v := .bool false) A (qb rfl rfl (fun w => (ql w).trans (by rw [show ((d.k == 4)) = false from (beq_eq_false_iff_ne.2 (by omega))]))) λa A↦?_)
          refine sda A λa A↦?_
          refine qa (hK60 _ _ (wp_cond_false (A.ev rfl) ?_))
          refine wsk fun K61 hK61 => wrl (sdo (v := .pointer (some ⟨g2, 1, none⟩)) A (qe TrV_fld_30_1 rfl rfl) λa A↦?_)
          refine sdo A (qm M TrV_is1_3 rfl 0 rfl rfl) λa A↦?_
          rcases tf ((d.n != 0)) with hb62 | hb62
          ·
           have hb62' := bne_iff_ne.1 hb62
           refine sdo (v := .bool true) A (qb rfl rfl (fun w => (qz w).trans (by rw [hb62]))) λa A↦?_
           refine qa (hK61 _ _ (wp_cond_true (A.ev rfl) ?_))
           refine wsk fun K63 hK63 => wrl (sda A λa A↦?_)
           refine qa (hK63 _ _ (wp_ret (hret _ _ (en1 A rfl (qh rfl) ?_))))
           subst hr
           exact ⟨by rw [show zd d.k d.n d.y.q d.s d.rl.length ts.length = false from by rw [zg]; exact sh6 ⟨by omega, by omega, hb10⟩ ⟨fun h => absurd h (by omega), fun _ => ⟨hb43, hb46⟩⟩ (.inl hb51') (.inr (by omega)) (.inr (.inr ⟨by omega, by omega, by omega⟩))], M.bel⟩
          ·
           have hb62' := bne_eq_false_iff_eq.1 hb62
           refine sdo (v := .bool false) A (qb rfl rfl (fun w => (qz w).trans (by rw [hb62]))) λa A↦?_
           refine qa (hK61 _ _ (wp_cond_false (A.ev rfl) ?_))
           refine wp_skip (hK57 _ _ (wsk fun K64 hK64 => wsk fun K65 hK65 => wrl (sdo (v := .pointer (some ⟨g2, 0, none⟩)) A (qe TrV_fld_30_0 rfl rfl) λa A↦?_)))
           refine sdo A (qm M TrV_is1_3 rfl 0 rfl rfl) λa A↦?_
           refine sdo (v := .bool false) A (qb rfl rfl (fun w => (ql w).trans (by rw [show ((d.k == 8)) = false from (beq_eq_false_iff_ne.2 (by omega))]))) λa A↦?_
           refine qa (hK65 _ _ (wp_cond_false (A.ev rfl) ?_))
           refine wp_skip (hK64 _ _ (wsk fun K66 hK66 => wrl (sdo (v := .pointer (some ⟨g2, 0, none⟩)) A (qe TrV_fld_30_0 rfl rfl) λa A↦?_)))
           refine sdo A (qm M TrV_is1_3 rfl 0 rfl rfl) λa A↦?_
           refine sdo (v := .bool false) A (qb rfl rfl (fun w => (ql w).trans (by rw [show ((d.k == 9)) = false from (beq_eq_false_iff_ne.2 (by omega))]))) λa A↦?_
           refine sdm A λa A↦?_
           refine sdo (v := .pointer (some ⟨g2, 10, none⟩)) A (qe TrV_fld_30_5 rfl rfl) λa A↦?_
           refine sdo A (qm M TrV_is1_28 rfl 0 rfl rfl) λa A↦?_
           refine sdo A (qt Tryz.underlying28 rfl) λa A↦?_
           rcases tf ((((ts.length : Nat) : Int) == 0)) with hb67 | hb67
           ·
            have hb67' := eq_of_beq hb67
            refine sdo (v := .bool true) A (qb rfl rfl (fun w => (ql w).trans (by rw [hb67]))) λa A↦?_
            refine sdk (v := .bool true) A λa A↦?_
            refine sda A λa A↦?_
            refine qa (hK66 _ _ (wp_ret (hret _ _ (en1 A rfl (qh rfl) ?_))))
            subst hr
            exact ⟨by rw [show zd d.k d.n d.y.q d.s d.rl.length ts.length = true from by
             rw [zg, sh9 ⟨by omega, by omega, hb10⟩ ⟨fun h => absurd h (by omega), fun _ => ⟨hb43, hb46⟩⟩ (.inl hb51') (.inr (by omega)) ⟨fun h => by omega, fun h => absurd h (by omega), fun h h2 => by omega⟩]
             rw [if_neg (by omega)]
             exact decide_eq_true (by omega)], M.bel⟩
           ·
            have hb67' := ne_of_beq_false hb67
            refine sdo (v := .bool false) A (qb rfl rfl (fun w => (ql w).trans (by rw [hb67]))) λa A↦?_
            refine sdk (v := .bool false) A λa A↦?_
            refine sda A λa A↦?_
            refine qa (hK66 _ _ (wp_ret (hret _ _ (en1 A rfl (qh rfl) ?_))))
            subst hr
            exact ⟨by rw [show zd d.k d.n d.y.q d.s d.rl.length ts.length = false from by
             rw [zg, sh9 ⟨by omega, by omega, hb10⟩ ⟨fun h => absurd h (by omega), fun _ => ⟨hb43, hb46⟩⟩ (.inl hb51') (.inr (by omega)) ⟨fun h => by omega, fun h => absurd h (by omega), fun h h2 => by omega⟩]
             rw [if_neg (by omega)]
             exact decide_eq_false (by omega)], M.bel⟩
        ·
         have hb54' := of_decide_eq_false hb54
         refine sdo (v := .bool false) A (qb rfl rfl (fun w => (jd w).trans (by rw [hb54]))) λa A↦?_
         refine sdm A λa A↦?_
         iterate 3 refine qk A rfl rfl rfl λa A↦?_
         refine sdk (v := .bool false) A λa A↦?_
         refine qa (hK53 _ _ (wp_cond_false (A.ev rfl) ?_))
         refine wp_skip (hK52 _ _ (wsk fun K68 hK68 => wsk fun K69 hK69 => wrl (sdo (v := .pointer (some ⟨g2, 0, none⟩)) A (qe TrV_fld_30_0 rfl rfl) λa A↦?_)))
         refine sdo A (qm M TrV_is1_3 rfl 0 rfl rfl) λa A↦?_
         refine qa (hK69 _ _ (wp_block (wsk fun K70 hK70 => wrl ?_)))
         rcases tf ((d.k == 2)) with hb71 | hb71
         ·
          have hb71' := eq_of_beq hb71
          refine sdo (v := .bool true) A (qb rfl rfl (fun w => (ql w).trans (by rw [hb71]))) λa A↦?_
          refine sda A λa A↦?_
          refine qa (hK70 _ _ (wp_cond_true (A.ev rfl) ?_))
          refine wsk fun K72 hK72 => wrl (sdo (v := .pointer (some ⟨g2, 1, none⟩)) A (qe TrV_fld_30_1 rfl rfl) λa A↦?_)
          refine sdo A (qm M TrV_is1_3 rfl 0 rfl rfl) λa A↦?_
          rcases tf ((d.n != 0)) with hb73 | hb73
          ·
           have hb73' := bne_iff_ne.1 hb73
           refine sdo (v := .bool true) A (qb rfl rfl (fun w => (qz w).trans (by rw [hb73]))) λa A↦?_
           refine sdm A λa A↦?_
           refine sdo (v := .pointer (some ⟨g2, 1, none⟩)) A (qe TrV_fld_30_1 rfl rfl) λa A↦?_
           refine sdo A (qm M TrV_is1_3 rfl 0 rfl rfl) λa A↦?_
           rcases tf ((d.n != 1)) with hb74 | hb74
           ·
            have hb74' := bne_iff_ne.1 hb74
            refine sdo (v := .bool true) A (qb rfl rfl (fun w => (qz w).trans (by rw [hb74]))) λa A↦?_
            refine sdk (v := .bool true) A λa A↦?_
            refine qa (hK72 _ _ (wp_cond_true (A.ev rfl) ?_))
            refine wsk fun K75 hK75 => wrl (sda A λa A↦?_)
            refine qa (hK75 _ _ (wp_ret (hret _ _ (en1 A rfl (qh rfl) ?_))))
            subst hr
            exact ⟨by rw [show zd d.k d.n d.y.q d.s d.rl.length ts.length = false from by rw [zg]; exact sh6 ⟨by omega, by omega, hb10⟩ ⟨fun h => absurd h (by omega), fun _ => ⟨hb43, hb46⟩⟩ (.inl hb51') (.inl (by omega)) (.inl ⟨by omega, by omega, by omega⟩)], M.bel⟩
           ·
            have hb74' := bne_eq_false_iff_eq.1 hb74
            refine sdo (v := .bool false) A (qb rfl rfl (fun w => (qz w).trans (by rw [hb74]))) λa A↦?_
            refine sdk (v := .bool false) A λa A↦?_
            refine qa (hK72 _ _ (wp_cond_false (A.ev rfl) ?_))
            refine wp_skip (hK68 _ _ (wsk fun K76 hK76 => wsk fun K77 hK77 => wrl (sdo (v := .pointer (some ⟨g2, 0, none⟩)) A (qe TrV_fld_30_0 rfl rfl) λa A↦?_)))
            refine sdo A (qm M TrV_is1_3 rfl 0 rfl rfl) λa A↦?_
            refine sdo (v := .bool false) A (qb rfl rfl (fun w => (ql w).trans (by rw [show ((d.k == 8)) = false from (beq_eq_false_iff_ne.2 (by omega))]))) λa A↦?_
            refine qa (hK77 _ _ (wp_cond_false (A.ev rfl) ?_))
            refine wp_skip (hK76 _ _ (wsk fun K78 hK78 => wrl (sdo (v := .pointer (some ⟨g2, 0, none⟩)) A (qe TrV_fld_30_0 rfl rfl) λa A↦?_)))
            refine sdo A (qm M TrV_is1_3 rfl 0 rfl rfl) λa A↦?_
            refine sdo (v := .bool false) A (qb rfl rfl (fun w => (ql w).trans (by rw [show ((d.k == 9)) = false from (beq_eq_false_iff_ne.2 (by omega))]))) λa A↦?_
            refine sdm A λa A↦?_
            refine sdo (v := .pointer (some ⟨g2, 10, none⟩)) A (qe TrV_fld_30_5 rfl rfl) λa A↦?_
            refine sdo A (qm M TrV_is1_28 rfl 0 rfl rfl) λa A↦?_
            refine sdo A (qt Tryz.underlying28 rfl) λa A↦?_
            rcases tf ((((ts.length : Nat) : Int) == 0)) with hb79 | hb79
            ·
             have hb79' := eq_of_beq hb79
             refine sdo (v := .bool true) A (qb rfl rfl (fun w => (ql w).trans (by rw [hb79]))) λa A↦?_
             refine sdk (v := .bool true) A λa A↦?_
             refine sda A λa A↦?_
             refine qa (hK78 _ _ (wp_ret (hret _ _ (en1 A rfl (qh rfl) ?_))))
             subst hr
             exact ⟨by rw [show zd d.k d.n d.y.q d.s d.rl.length ts.length = true from by
              rw [zg, sh9 ⟨by omega, by omega, hb10⟩ ⟨fun h => absurd h (by omega), fun _ => ⟨hb43, hb46⟩⟩ (.inl hb51') (.inl (by omega)) ⟨fun h => by omega, fun h => absurd h (by omega), fun h h2 => by omega⟩]
              rw [if_neg (by omega)]
              exact decide_eq_true (by omega)], M.bel⟩
            ·
             have hb79' := ne_of_beq_false hb79
             refine sdo (v := .bool false) A (qb rfl rfl (fun w => (ql w).trans (by rw [hb79]))) λa A↦?_
             refine sdk (v := .bool false) A λa A↦?_
             refine sda A λa A↦?_
             refine qa (hK78 _ _ (wp_ret (hret _ _ (en1 A rfl (qh rfl) ?_))))
             subst hr
             exact ⟨by rw [show zd d.k d.n d.y.q d.s d.rl.length ts.length = false from by
              rw [zg, sh9 ⟨by omega, by omega, hb10⟩ ⟨fun h => absurd h (by omega), fun _ => ⟨hb43, hb46⟩⟩ (.inl hb51') (.inl (by omega)) ⟨fun h => by omega, fun h => absurd h (by omega), fun h h2 => by omega⟩]
              rw [if_neg (by omega)]
              exact decide_eq_false (by omega)], M.bel⟩
          ·
           have hb73' := bne_eq_false_iff_eq.1 hb73
           refine sdo (v := .bool false) A (qb rfl rfl (fun w => (qz w).trans (by rw [hb73]))) λa A↦?_
           refine sdm A λa A↦?_
           iterate 3 refine qk A rfl rfl rfl λa A↦?_
           refine sdk (v := .bool false) A λa A↦?_
           refine qa (hK72 _ _ (wp_cond_false (A.ev rfl) ?_))
           refine wp_skip (hK68 _ _ (wsk fun K80 hK80 => wsk fun K81 hK81 => wrl (sdo (v := .pointer (some ⟨g2, 0, none⟩)) A (qe TrV_fld_30_0 rfl rfl) λa A↦?_)))
           refine sdo A (qm M TrV_is1_3 rfl 0 rfl rfl) λa A↦?_
           refine sdo (v := .bool false) A (qb rfl rfl (fun w => (ql w).trans (by rw [show ((d.k == 8)) = false from (beq_eq_false_iff_ne.2 (by omega))]))) λa A↦?_
           refine qa (hK81 _ _ (wp_cond_false (A.ev rfl) ?_))
           refine wp_skip (hK80 _ _ (wsk fun K82 hK82 => wrl (sdo (v := .pointer (some ⟨g2, 0, none⟩)) A (qe TrV_fld_30_0 rfl rfl) λa A↦?_)))
           refine sdo A (qm M TrV_is1_3 rfl 0 rfl rfl) λa A↦?_
           refine sdo (v := .bool false) A (qb rfl rfl (fun w => (ql w).trans (by rw [show ((d.k == 9)) = false from (beq_eq_false_iff_ne.2 (by omega))]))) λa A↦?_
           refine sdm A λa A↦?_
           refine sdo (v := .pointer (some ⟨g2, 10, none⟩)) A (qe TrV_fld_30_5 rfl rfl) λa A↦?_
           refine sdo A (qm M TrV_is1_28 rfl 0 rfl rfl) λa A↦?_
           refine sdo A (qt Tryz.underlying28 rfl) λa A↦?_
           rcases tf ((((ts.length : Nat) : Int) == 0)) with hb83 | hb83
           ·
            have hb83' := eq_of_beq hb83
            refine sdo (v := .bool true) A (qb rfl rfl (fun w => (ql w).trans (by rw [hb83]))) λa A↦?_
            refine sdk (v := .bool true) A λa A↦?_
            refine sda A λa A↦?_
            refine qa (hK82 _ _ (wp_ret (hret _ _ (en1 A rfl (qh rfl) ?_))))
            subst hr
            exact ⟨by rw [show zd d.k d.n d.y.q d.s d.rl.length ts.length = true from by
             rw [zg, sh9 ⟨by omega, by omega, hb10⟩ ⟨fun h => absurd h (by omega), fun _ => ⟨hb43, hb46⟩⟩ (.inl hb51') (.inl (by omega)) ⟨fun h => by omega, fun h => absurd h (by omega), fun h h2 => by omega⟩]
             rw [if_neg (by omega)]
             exact decide_eq_true (by omega)], M.bel⟩
           ·
            have hb83' := ne_of_beq_false hb83
            refine sdo (v := .bool false) A (qb rfl rfl (fun w => (ql w).trans (by rw [hb83]))) λa A↦?_
            refine sdk (v := .bool false) A λa A↦?_
            refine sda A λa A↦?_
            refine qa (hK82 _ _ (wp_ret (hret _ _ (en1 A rfl (qh rfl) ?_))))
            subst hr
            exact ⟨by rw [show zd d.k d.n d.y.q d.s d.rl.length ts.length = false from by
             rw [zg, sh9 ⟨by omega, by omega, hb10⟩ ⟨fun h => absurd h (by omega), fun _ => ⟨hb43, hb46⟩⟩ (.inl hb51') (.inl (by omega)) ⟨fun h => by omega, fun h => absurd h (by omega), fun h h2 => by omega⟩]
             rw [if_neg (by omega)]
             exact decide_eq_false (by omega)], M.bel⟩
         ·
          have hb71' := ne_of_beq_false hb71
          refine sdo (v := .bool false) A (qb rfl rfl (fun w => (ql w).trans (by rw [hb71]))) λa A↦?_
          refine sda A λa A↦?_
          refine qa (hK70 _ _ (wp_cond_false (A.ev rfl) ?_))
          refine wsk fun K84 hK84 => wrl ?_
          rcases tf ((d.k == 4)) with hb85 | hb85
          ·
           have hb85' := eq_of_beq hb85
           refine sdo (v := .bool true) A (qb rfl rfl (fun w => (ql w).trans (by rw [hb85]))) λa A↦?_
           refine sda A λa A↦?_
           refine qa (hK84 _ _ (wp_cond_true (A.ev rfl) ?_))
           refine wsk fun K86 hK86 => wrl (sdo (v := .pointer (some ⟨g2, 1, none⟩)) A (qe TrV_fld_30_1 rfl rfl) λa A↦?_)
           refine sdo A (qm M TrV_is1_3 rfl 0 rfl rfl) λa A↦?_
           rcases tf (ku d.n) with hb87 | hb87
           ·
            refine qi A rfl rfl rfl (qf rfl rfl (fun w => by kernel_rfl)) (risCh_any hb87) ?_
            rintro _ w89 ⟨rfl, hb88⟩
            replace M := M.call hb88
            refine ⟨_, rfl, ?_⟩
            intro a A
            refine sdo (v := .bool false) A (zl rfl zu) λa A↦?_
            refine qa (hK86 _ _ (wp_cond_false (A.ev rfl) ?_))
            refine wp_skip (hK68 _ _ (wsk fun K90 hK90 => wsk fun K91 hK91 => wrl (sdo (v := .pointer (some ⟨g2, 0, none⟩)) A (qe TrV_fld_30_0 rfl rfl) λa A↦?_)))
            refine sdo A (qm M TrV_is1_3 rfl 0 rfl rfl) λa A↦?_
            refine sdo (v := .bool false) A (qb rfl rfl (fun w => (ql w).trans (by rw [show ((d.k == 8)) = false from (beq_eq_false_iff_ne.2 (by omega))]))) λa A↦?_
            refine qa (hK91 _ _ (wp_cond_false (A.ev rfl) ?_))
            refine wp_skip (hK90 _ _ (wsk fun K92 hK92 => wrl (sdo (v := .pointer (some ⟨g2, 0, none⟩)) A (qe TrV_fld_30_0 rfl rfl) λa A↦?_)))
            refine sdo A (qm M TrV_is1_3 rfl 0 rfl rfl) λa A↦?_
            refine sdo (v := .bool false) A (qb rfl rfl (fun w => (ql w).trans (by rw [show ((d.k == 9)) = false from (beq_eq_false_iff_ne.2 (by omega))]))) λa A↦?_
            refine sdm A λa A↦?_
            refine sdo (v := .pointer (some ⟨g2, 10, none⟩)) A (qe TrV_fld_30_5 rfl rfl) λa A↦?_
            refine sdo A (qm M TrV_is1_28 rfl 0 rfl rfl) λa A↦?_
            refine sdo A (qt Tryz.underlying28 rfl) λa A↦?_
            rcases tf ((((ts.length : Nat) : Int) == 0)) with hb93 | hb93
            ·
             have hb93' := eq_of_beq hb93
             refine sdo (v := .bool true) A (qb rfl rfl (fun w => (ql w).trans (by rw [hb93]))) λa A↦?_
             refine sdk (v := .bool true) A λa A↦?_
             refine sda A λa A↦?_
             refine qa (hK92 _ _ (wp_ret (hret _ _ (en1 A rfl (qh rfl) ?_))))
             subst hr
             exact ⟨by rw [show zd d.k d.n d.y.q d.s d.rl.length ts.length = true from by
              rw [zg, sh9 ⟨by omega, by omega, hb10⟩ ⟨fun h => absurd h (by omega), fun _ => ⟨hb43, hb46⟩⟩ (.inl hb51') (.inl (by omega)) ⟨fun h => by omega, fun h => hb87, fun h h2 => by omega⟩]
              rw [if_neg (by omega)]
              exact decide_eq_true (by omega)], M.bel⟩
            ·
             have hb93' := ne_of_beq_false hb93
             refine sdo (v := .bool false) A (qb rfl rfl (fun w => (ql w).trans (by rw [hb93]))) λa A↦?_
             refine sdk (v := .bool false) A λa A↦?_
             refine sda A λa A↦?_
             refine qa (hK92 _ _ (wp_ret (hret _ _ (en1 A rfl (qh rfl) ?_))))
             subst hr
             exact ⟨by rw [show zd d.k d.n d.y.q d.s d.rl.length ts.length = false from by
              rw [zg, sh9 ⟨by omega, by omega, hb10⟩ ⟨fun h => absurd h (by omega), fun _ => ⟨hb43, hb46⟩⟩ (.inl hb51') (.inl (by omega)) ⟨fun h => by omega, fun h => hb87, fun h h2 => by omega⟩]
              rw [if_neg (by omega)]
              exact decide_eq_false (by omega)], M.bel⟩
           ·
            refine qi A rfl rfl rfl (qf rfl rfl (fun w => by kernel_rfl)) (risCh_any hb87) ?_
            rintro _ w95 ⟨rfl, hb94⟩
            replace M := M.call hb94
            refine ⟨_, rfl, ?_⟩
            intro a A
            refine sdo (v := .bool true) A (zl rfl zu) λa A↦?_
            refine qa (hK86 _ _ (wp_cond_true (A.ev rfl) ?_))
            refine wsk fun K96 hK96 => wrl (sda A λa A↦?_)
            refine qa (hK96 _ _ (wp_ret (hret _ _ (en1 A rfl (qh rfl) ?_))))
            subst hr
            exact ⟨by rw [show zd d.k d.n d.y.q d.s d.rl.length ts.length = false from by rw [zg]; exact sh6 ⟨by omega, by omega, hb10⟩ ⟨fun h => absurd h (by omega), fun _ => ⟨hb43, hb46⟩⟩ (.inl hb51') (.inl (by omega)) (.inr (.inl ⟨by omega, hb87⟩))], M.bel⟩
          ·
           have hb85' := ne_of_beq_false hb85
           refine sdo (v := .bool false) A (qb rfl rfl (fun w => (ql w).trans (by rw [hb85]))) λa A↦?_
           refine sda A λa A↦?_
           refine qa (hK84 _ _ (wp_cond_false (A.ev rfl) ?_))
           refine wsk fun K97 hK97 => wrl (sdo (v := .pointer (some ⟨g2, 1, none⟩)) A (qe TrV_fld_30_1 rfl rfl) λa A↦?_)
           refine sdo A (qm M TrV_is1_3 rfl 0 rfl rfl) λa A↦?_
           rcases tf ((d.n != 0)) with hb98 | hb98
           ·
            have hb98' := bne_iff_ne.1 hb98
            refine sdo (v := .bool true) A (qb rfl rfl (fun w => (qz w).trans (by rw [hb98]))) λa A↦?_
            refine qa (hK97 _ _ (wp_cond_true (A.ev rfl) ?_))
            refine wsk fun K99 hK99 => wrl (sda A λa A↦?_)
            refine qa (hK99 _ _ (wp_ret (hret _ _ (en1 A rfl (qh rfl) ?_))))
            subst hr
            exact ⟨by rw [show zd d.k d.n d.y.q d.s d.rl.length ts.length = false from by rw [zg]; exact sh6 ⟨by omega, by omega, hb10⟩ ⟨fun h => absurd h (by omega), fun _ => ⟨hb43, hb46⟩⟩ (.inl hb51') (.inl (by omega)) (.inr (.inr ⟨by omega, by omega, by omega⟩))], M.bel⟩
           ·
            have hb98' := bne_eq_false_iff_eq.1 hb98
            refine sdo (v := .bool false) A (qb rfl rfl (fun w => (qz w).trans (by rw [hb98]))) λa A↦?_
            refine qa (hK97 _ _ (wp_cond_false (A.ev rfl) ?_))
            refine wp_skip (hK68 _ _ (wsk fun K100 hK100 => wsk fun K101 hK101 => wrl (sdo (v := .pointer (some ⟨g2, 0, none⟩)) A (qe TrV_fld_30_0 rfl rfl) λa A↦?_)))
            refine sdo A (qm M TrV_is1_3 rfl 0 rfl rfl) λa A↦?_
            rcases tf ((d.k == 8)) with hb102 | hb102
            ·
             have hb102' := eq_of_beq hb102
             refine sdo (v := .bool true) A (qb rfl rfl (fun w => (ql w).trans (by rw [hb102]))) λa A↦?_
             refine qa (hK101 _ _ (wp_cond_true (A.ev rfl) ?_))
             refine wsk fun K103 hK103 => wrl (sdo (v := .pointer (some ⟨g2, 10, none⟩)) A (qe TrV_fld_30_5 rfl rfl) λa A↦?_)
             refine sdo A (qm M TrV_is1_28 rfl 0 rfl rfl) λa A↦?_
             refine sdo A (qt Tryz.underlying28 rfl) λa A↦?_
             rcases tf ((((ts.length : Nat) : Int) == 2)) with hb104 | hb104
             ·
              have hb104' := eq_of_beq hb104
              refine sdo (v := .bool true) A (qb rfl rfl (fun w => (ql w).trans (by rw [hb104]))) λa A↦?_
              refine sda A λa A↦?_
              refine qa (hK103 _ _ (wp_ret (hret _ _ (en1 A rfl (qh rfl) ?_))))
              subst hr
              exact ⟨by rw [show zd d.k d.n d.y.q d.s d.rl.length ts.length = true from by
               rw [zg, sh9 ⟨by omega, by omega, hb10⟩ ⟨fun h => absurd h (by omega), fun _ => ⟨hb43, hb46⟩⟩ (.inl hb51') (.inl (by omega)) ⟨fun h => by omega, fun h => absurd h (by omega), fun h h2 => by omega⟩]
               rw [if_pos (by omega)]
               exact decide_eq_true (by omega)], M.bel⟩
             ·
              have hb104' := ne_of_beq_false hb104
              refine sdo (v := .bool false) A (qb rfl rfl (fun w => (ql w).trans (by rw [hb104]))) λa A↦?_
              refine sda A λa A↦?_
              refine qa (hK103 _ _ (wp_ret (hret _ _ (en1 A rfl (qh rfl) ?_))))
              subst hr
              exact ⟨by rw [show zd d.k d.n d.y.q d.s d.rl.length ts.length = false from by
               rw [zg, sh9 ⟨by omega, by omega, hb10⟩ ⟨fun h => absurd h (by omega), fun _ => ⟨hb43, hb46⟩⟩ (.inl hb51') (.inl (by omega)) ⟨fun h => by omega, fun h => absurd h (by omega), fun h h2 => by omega⟩]
               rw [if_pos (by omega)]
               exact decide_eq_false (by omega)], M.bel⟩
            ·
             have hb102' := ne_of_beq_false hb102
             refine sdo (v := .bool false) A (qb rfl rfl (fun w => (ql w).trans (by rw [hb102]))) λa A↦?_
             refine qa (hK101 _ _ (wp_cond_false (A.ev rfl) ?_))
             refine wp_skip (hK100 _ _ (wsk fun K105 hK105 => wrl (sdo (v := .pointer (some ⟨g2, 0, none⟩)) A (qe TrV_fld_30_0 rfl rfl) λa A↦?_)))
             refine sdo A (qm M TrV_is1_3 rfl 0 rfl rfl) λa A↦?_
             rcases tf ((d.k == 9)) with hb106 | hb106
             ·
              have hb106' := eq_of_beq hb106
              refine sdo (v := .bool true) A (qb rfl rfl (fun w => (ql w).trans (by rw [hb106]))) λa A↦?_
              refine sdm A λa A↦?_
              iterate 4 refine qk A rfl rfl rfl λa A↦?_
              refine sdk (v := .bool true) A λa A↦?_
              refine sda A λa A↦?_
              refine qa (hK105 _ _ (wp_ret (hret _ _ (en1 A rfl (qh rfl) ?_))))
              subst hr
              exact ⟨by rw [show zd d.k d.n d.y.q d.s d.rl.length ts.length = true from by
               rw [zg, sh9 ⟨by omega, by omega, hb10⟩ ⟨fun h => absurd h (by omega), fun _ => ⟨hb43, hb46⟩⟩ (.inl hb51') (.inl (by omega)) ⟨fun h => by omega, fun h => absurd h (by omega), fun h h2 => by omega⟩]
               rw [if_neg (by omega)]
               exact decide_eq_true (by omega)], M.bel⟩
             ·
              have hb106' := ne_of_beq_false hb106
              refine sdo (v := .bool false) A (qb rfl rfl (fun w => (ql w).trans (by rw [hb106]))) λa A↦?_
              refine sdm A λa A↦?_
              refine sdo (v := .pointer (some ⟨g2, 10, none⟩)) A (qe TrV_fld_30_5 rfl rfl) λa A↦?_
              refine sdo A (qm M TrV_is1_28 rfl 0 rfl rfl) λa A↦?_
              refine sdo A (qt Tryz.underlying28 rfl) λa A↦?_
              rcases tf ((((ts.length : Nat) : Int) == 0)) with hb107 | hb107
              ·
               have hb107' := eq_of_beq hb107
               refine sdo (v := .bool true) A (qb rfl rfl (fun w => (ql w).trans (by rw [hb107]))) λa A↦?_
               refine sdk (v := .bool true) A λa A↦?_
               refine sda A λa A↦?_
               refine qa (hK105 _ _ (wp_ret (hret _ _ (en1 A rfl (qh rfl) ?_))))
               subst hr
               exact ⟨by rw [show zd d.k d.n d.y.q d.s d.rl.length ts.length = true from by
                rw [zg, sh9 ⟨by omega, by omega, hb10⟩ ⟨fun h => absurd h (by omega), fun _ => ⟨hb43, hb46⟩⟩ (.inl hb51') (.inl (by omega)) ⟨fun h => by omega, fun h => absurd h (by omega), fun h h2 => by omega⟩]
                rw [if_neg (by omega)]
                exact decide_eq_true (by omega)], M.bel⟩
              ·
               have hb107' := ne_of_beq_false hb107
               refine sdo (v := .bool false) A (qb rfl rfl (fun w => (ql w).trans (by rw [hb107]))) λa A↦?_
               refine sdk (v := .bool false) A λa A↦?_
               refine sda A λa A↦?_
               refine qa (hK105 _ _ (wp_ret (hret _ _ (en1 A rfl (qh rfl) ?_))))
               subst hr
               exact ⟨by rw [show zd d.k d.n d.y.q d.s d.rl.length ts.length = false from by
                rw [zg, sh9 ⟨by omega, by omega, hb10⟩ ⟨fun h => absurd h (by omega), fun _ => ⟨hb43, hb46⟩⟩ (.inl hb51') (.inl (by omega)) ⟨fun h => by omega, fun h => absurd h (by omega), fun h h2 => by omega⟩]
                rw [if_neg (by omega)]
                exact decide_eq_false (by omega)], M.bel⟩
       ·
        have hb51' := of_decide_eq_false hb51
        refine sdo (v := .bool true) A (qb rfl rfl (fun w => (uf Tryz.underlying9 w).trans (by rw [hb51] <;> rfl))) λa A↦?_
        refine sdm A λa A↦?_
        refine sdo (v := .pointer (some ⟨g2, 0, none⟩)) A (qe TrV_fld_30_0 rfl rfl) λa A↦?_
        refine sdo A (qm M TrV_is1_3 rfl 0 rfl rfl) λa A↦?_
        rcases tf ((d.k != 5)) with hb108 | hb108
        ·
         have hb108' := bne_iff_ne.1 hb108
         refine sdo (v := .bool true) A (qb rfl rfl (fun w => (qz w).trans (by rw [hb108]))) λa A↦?_
         refine sdk (v := .bool true) A λa A↦?_
         refine sdm A λa A↦?_
         refine sdo (v := .pointer (some ⟨g2, 0, none⟩)) A (qe TrV_fld_30_0 rfl rfl) λa A↦?_
         refine sdo A (qm M TrV_is1_3 rfl 0 rfl rfl) λa A↦?_
         rcases tf ((d.k != 6)) with hb109 | hb109
         ·
          have hb109' := bne_iff_ne.1 hb109
          refine sdo (v := .bool true) A (qb rfl rfl (fun w => (qz w).trans (by rw [hb109]))) λa A↦?_
          refine sdk (v := .bool true) A λa A↦?_
          refine sdm A λa A↦?_
          refine sdo (v := .pointer (some ⟨g2, 0, none⟩)) A (qe TrV_fld_30_0 rfl rfl) λa A↦?_
          refine sdo A (qm M TrV_is1_3 rfl 0 rfl rfl) λa A↦?_
          rcases tf ((d.k != 11)) with hb110 | hb110
          ·
           have hb110' := bne_iff_ne.1 hb110
           refine sdo (v := .bool true) A (qb rfl rfl (fun w => (qz w).trans (by rw [hb110]))) λa A↦?_
           refine sdk (v := .bool true) A λa A↦?_
           refine qa (hK50 _ _ (wp_cond_true (A.ev rfl) ?_))
           refine wsk fun K111 hK111 => wrl (sda A λa A↦?_)
           refine qa (hK111 _ _ (wp_ret (hret _ _ (en1 A rfl (qh rfl) ?_))))
           subst hr
           exact ⟨by rw [show zd d.k d.n d.y.q d.s d.rl.length ts.length = false from by rw [zg]; exact sh4 ⟨by omega, by omega, hb10⟩ ⟨fun h => absurd h (by omega), fun _ => ⟨hb43, hb46⟩⟩ ⟨hb51', by omega, by omega, by omega⟩], M.bel⟩
          ·
           have hb110' := bne_eq_false_iff_eq.1 hb110
           refine sdo (v := .bool false) A (qb rfl rfl (fun w => (qz w).trans (by rw [hb110]))) λa A↦?_
           refine sdk (v := .bool false) A λa A↦?_
           refine qa (hK50 _ _ (wp_cond_false (A.ev rfl) ?_))
           refine wp_skip (hK49 _ _ (wsk fun K112 hK112 => wsk fun K113 hK113 => wrl (sdo (v := .pointer (some ⟨g2, 9, none⟩)) A (qe TrV_fld_30_4 rfl rfl) λa A↦?_)))
           refine sdo A (qm M TrV_is1_27 rfl 0 rfl rfl) λa A↦?_
           refine sdo A (qt Tryz.underlying27 rfl) λa A↦?_
           rcases tf (decide (0 < ((d.rl.length : Nat) : Int))) with hb114 | hb114
           ·
            have hb114' := of_decide_eq_true hb114
            refine sdo (v := .bool true) A (qb rfl rfl (fun w => (jd w).trans (by rw [hb114]))) λa A↦?_
            refine sdm A λa A↦?_
            refine sdo (v := .pointer (some ⟨g2, 0, none⟩)) A (qe TrV_fld_30_0 rfl rfl) λa A↦?_
            refine sdo A (qm M TrV_is1_3 rfl 0 rfl rfl) λa A↦?_
            refine sdo (v := .bool true) A (qb rfl rfl (fun w => (qz w).trans (by rw [show ((d.k != 7)) = true from (bne_iff_ne.2 (by omega))]))) λa A↦?_
            refine sdk (v := .bool true) A λa A↦?_
            refine qa (hK113 _ _ (wp_cond_true (A.ev rfl) ?_))
            refine wsk fun K115 hK115 => wrl (sda A λa A↦?_)
            refine qa (hK115 _ _ (wp_ret (hret _ _ (en1 A rfl (qh rfl) ?_))))
            subst hr
            exact ⟨by rw [show zd d.k d.n d.y.q d.s d.rl.length ts.length = false from by rw [zg]; exact sh5 ⟨by omega, by omega, hb10⟩ ⟨fun h => absurd h (by omega), fun _ => ⟨hb43, hb46⟩⟩ (.inr (by omega)) ⟨by omega, by omega⟩], M.bel⟩
           ·
            have hb114' := of_decide_eq_false hb114
            refine sdo (v := .bool false) A (qb rfl rfl (fun w => (jd w).trans (by rw [hb114]))) λa A↦?_
            refine sdm A λa A↦?_
            iterate 3 refine qk A rfl rfl rfl λa A↦?_
            refine sdk (v := .bool false) A λa A↦?_
            refine qa (hK113 _ _ (wp_cond_false (A.ev rfl) ?_))
            refine wp_skip (hK112 _ _ (wsk fun K116 hK116 => wsk fun K117 hK117 => wrl (sdo (v := .pointer (some ⟨g2, 0, none⟩)) A (qe TrV_fld_30_0 rfl rfl) λa A↦?_)))
            refine sdo A (qm M TrV_is1_3 rfl 0 rfl rfl) λa A↦?_
            refine qa (hK117 _ _ (wp_block (wsk fun K118 hK118 => wrl (sdo (v := .bool false) A (qb rfl rfl (fun w => (ql w).trans (by rw [show ((d.k == 2)) = false from (beq_eq_false_iff_ne.2 (by omega))]))) λa A↦?_))))
            refine sda A λa A↦?_
            refine qa (hK118 _ _ (wp_cond_false (A.ev rfl) ?_))
            refine wsk fun K119 hK119 => wrl (sdo (v := .bool false) A (qb rfl rfl (fun w => (ql w).trans (by rw [show ((d.k == 4)) = false from (beq_eq_false_iff_ne.2 (by omega))]))) λa A↦?_)
            refine sda A λa A↦?_
            refine qa (hK119 _ _ (wp_cond_false (A.ev rfl) ?_))
            refine wsk fun K120 hK120 => wrl (sdo (v := .pointer (some ⟨g2, 1, none⟩)) A (qe TrV_fld_30_1 rfl rfl) λa A↦?_)
            refine sdo A (qm M TrV_is1_3 rfl 0 rfl rfl) λa A↦?_
            rcases tf ((d.n != 0)) with hb121 | hb121
            ·
             have hb121' := bne_iff_ne.1 hb121
             refine sdo (v := .bool true) A (qb rfl rfl (fun w => (qz w).trans (by rw [hb121]))) λa A↦?_
             refine qa (hK120 _ _ (wp_cond_true (A.ev rfl) ?_))
             refine wsk fun K122 hK122 => wrl (sda A λa A↦?_)
             refine qa (hK122 _ _ (wp_ret (hret _ _ (en1 A rfl (qh rfl) ?_))))
             subst hr
             exact ⟨by rw [show zd d.k d.n d.y.q d.s d.rl.length ts.length = false from by rw [zg]; exact sh6 ⟨by omega, by omega, hb10⟩ ⟨fun h => absurd h (by omega), fun _ => ⟨hb43, hb46⟩⟩ (.inr (by omega)) (.inl (by omega)) (.inr (.inr ⟨by omega, by omega, by omega⟩))], M.bel⟩
            ·
             have hb121' := bne_eq_false_iff_eq.1 hb121
             refine sdo (v := .bool false) A (qb rfl rfl (fun w => (qz w).trans (by rw [hb121]))) λa A↦?_
             refine qa (hK120 _ _ (wp_cond_false (A.ev rfl) ?_))
             refine wp_skip (hK116 _ _ (wsk fun K123 hK123 => wsk fun K124 hK124 => wrl (sdo (v := .pointer (some ⟨g2, 0, none⟩)) A (qe TrV_fld_30_0 rfl rfl) λa A↦?_)))
             refine sdo A (qm M TrV_is1_3 rfl 0 rfl rfl) λa A↦?_
             refine sdo (v := .bool false) A (qb rfl rfl (fun w => (ql w).trans (by rw [show ((d.k == 8)) = false from (beq_eq_false_iff_ne.2 (by omega))]))) λa A↦?_
             refine qa (hK124 _ _ (wp_cond_false (A.ev rfl) ?_))
             refine wp_skip (hK123 _ _ (wsk fun K125 hK125 => wrl (sdo (v := .pointer (some ⟨g2, 0, none⟩)) A (qe TrV_fld_30_0 rfl rfl) λa A↦?_)))
             refine sdo A (qm M TrV_is1_3 rfl 0 rfl rfl) λa A↦?_
             refine sdo (v := .bool false) A (qb rfl rfl (fun w => (ql w).trans (by rw [show ((d.k == 9)) = false from (beq_eq_false_iff_ne.2 (by omega))]))) λa A↦?_
             refine sdm A λa A↦?_
             refine sdo (v := .pointer (some ⟨g2, 10, none⟩)) A (qe TrV_fld_30_5 rfl rfl) λa A↦?_
             refine sdo A (qm M TrV_is1_28 rfl 0 rfl rfl) λa A↦?_
             refine sdo A (qt Tryz.underlying28 rfl) λa A↦?_
             rcases tf ((((ts.length : Nat) : Int) == 0)) with hb126 | hb126
             ·
              have hb126' := eq_of_beq hb126
              refine sdo (v := .bool true) A (qb rfl rfl (fun w => (ql w).trans (by rw [hb126]))) λa A↦?_
              refine sdk (v := .bool true) A λa A↦?_
              refine sda A λa A↦?_
              refine qa (hK125 _ _ (wp_ret (hret _ _ (en1 A rfl (qh rfl) ?_))))
              subst hr
              exact ⟨by rw [show zd d.k d.n d.y.q d.s d.rl.length ts.length = true from by
               rw [zg, sh9 ⟨by omega, by omega, hb10⟩ ⟨fun h => absurd h (by omega), fun _ => ⟨hb43, hb46⟩⟩ (.inr (by omega)) (.inl (by omega)) ⟨fun h => by omega, fun h => absurd h (by omega), fun h h2 => by omega⟩]
               rw [if_neg (by omega)]
               exact decide_eq_true (by omega)], M.bel⟩
             ·
              have hb126' := ne_of_beq_false hb126
              refine sdo (v := .bool false) A (qb rfl rfl (fun w => (ql w).trans (by rw [hb126]))) λa A↦?_
              refine sdk (v := .bool false) A λa A↦?_
              refine sda A λa A↦?_
              refine qa (hK125 _ _ (wp_ret (hret _ _ (en1 A rfl (qh rfl) ?_))))
              subst hr
              exact ⟨by rw [show zd d.k d.n d.y.q d.s d.rl.length ts.length = false from by
               rw [zg, sh9 ⟨by omega, by omega, hb10⟩ ⟨fun h => absurd h (by omega), fun _ => ⟨hb43, hb46⟩⟩ (.inr (by omega)) (.inl (by omega)) ⟨fun h => by omega, fun h => absurd h (by omega), fun h h2 => by omega⟩]
               rw [if_neg (by omega)]
               exact decide_eq_false (by omega)], M.bel⟩
         ·
          have hb109' := bne_eq_false_iff_eq.1 hb109
          refine sdo (v := .bool false) A (qb rfl rfl (fun w => (qz w).trans (by rw [hb109]))) λa A↦?_
          refine sdk (v := .bool false) A λa A↦?_
          refine sdm A λa A↦?_
          iterate 3 refine qk A rfl rfl rfl λa A↦?_
          refine sdk (v := .bool false) A λa A↦?_
          refine qa (hK50 _ _ (wp_cond_false (A.ev rfl) ?_))
          refine wp_skip (hK49 _ _ (wsk fun K127 hK127 => wsk fun K128 hK128 => wrl (sdo (v := .pointer (some ⟨g2, 9, none⟩)) A (qe TrV_fld_30_4 rfl rfl) λa A↦?_)))
          refine sdo A (qm M TrV_is1_27 rfl 0 rfl rfl) λa A↦?_
          refine sdo A (qt Tryz.underlying27 rfl) λa A↦?_
          rcases tf (decide (0 < ((d.rl.length : Nat) : Int))) with hb129 | hb129
          ·
           have hb129' := of_decide_eq_true hb129
           refine sdo (v := .bool true) A (qb rfl rfl (fun w => (jd w).trans (by rw [hb129]))) λa A↦?_
           refine sdm A λa A↦?_
           refine sdo (v := .pointer (some ⟨g2, 0, none⟩)) A (qe TrV_fld_30_0 rfl rfl) λa A↦?_
           refine sdo A (qm M TrV_is1_3 rfl 0 rfl rfl) λa A↦?_
           refine sdo (v := .bool true) A (qb rfl rfl (fun w => (qz w).trans (by rw [show ((d.k != 7)) = true from (bne_iff_ne.2 (by omega))]))) λa A↦?_
           refine sdk (v := .bool true) A λa A↦?_
           refine qa (hK128 _ _ (wp_cond_true (A.ev rfl) ?_))
           refine wsk fun K130 hK130 => wrl (sda A λa A↦?_)
           refine qa (hK130 _ _ (wp_ret (hret _ _ (en1 A rfl (qh rfl) ?_))))
           subst hr
           exact ⟨by rw [show zd d.k d.n d.y.q d.s d.rl.length ts.length = false from by rw [zg]; exact sh5 ⟨by omega, by omega, hb10⟩ ⟨fun h => absurd h (by omega), fun _ => ⟨hb43, hb46⟩⟩ (.inr (by omega)) ⟨by omega, by omega⟩], M.bel⟩
          ·
           have hb129' := of_decide_eq_false hb129
           refine sdo (v := .bool false) A (qb rfl rfl (fun w => (jd w).trans (by rw [hb129]))) λa A↦?_
           refine sdm A λa A↦?_
           iterate 3 refine qk A rfl rfl rfl λa A↦?_
           refine sdk (v := .bool false) A λa A↦?_
           refine qa (hK128 _ _ (wp_cond_false (A.ev rfl) ?_))
           refine wp_skip (hK127 _ _ (wsk fun K131 hK131 => wsk fun K132 hK132 => wrl (sdo (v := .pointer (some ⟨g2, 0, none⟩)) A (qe TrV_fld_30_0 rfl rfl) λa A↦?_)))
           refine sdo A (qm M TrV_is1_3 rfl 0 rfl rfl) λa A↦?_
           refine qa (hK132 _ _ (wp_block (wsk fun K133 hK133 => wrl (sdo (v := .bool false) A (qb rfl rfl (fun w => (ql w).trans (by rw [show ((d.k == 2)) = false from (beq_eq_false_iff_ne.2 (by omega))]))) λa A↦?_))))
           refine sda A λa A↦?_
           refine qa (hK133 _ _ (wp_cond_false (A.ev rfl) ?_))
           refine wsk fun K134 hK134 => wrl (sdo (v := .bool false) A (qb rfl rfl (fun w => (ql w).trans (by rw [show ((d.k == 4)) = false from (beq_eq_false_iff_ne.2 (by omega))]))) λa A↦?_)
           refine sda A λa A↦?_
           refine qa (hK134 _ _ (wp_cond_false (A.ev rfl) ?_))
           refine wsk fun K135 hK135 => wrl (sdo (v := .pointer (some ⟨g2, 1, none⟩)) A (qe TrV_fld_30_1 rfl rfl) λa A↦?_)
           refine sdo A (qm M TrV_is1_3 rfl 0 rfl rfl) λa A↦?_
           rcases tf ((d.n != 0)) with hb136 | hb136
           ·
            have hb136' := bne_iff_ne.1 hb136
            refine sdo (v := .bool true) A (qb rfl rfl (fun w => (qz w).trans (by rw [hb136]))) λa A↦?_
            refine qa (hK135 _ _ (wp_cond_true (A.ev rfl) ?_))
            refine wsk fun K137 hK137 => wrl (sda A λa A↦?_)
            refine qa (hK137 _ _ (wp_ret (hret _ _ (en1 A rfl (qh rfl) ?_))))
            subst hr
            exact ⟨by rw [show zd d.k d.n d.y.q d.s d.rl.length ts.length = false from by rw [zg]; exact sh6 ⟨by omega, by omega, hb10⟩ ⟨fun h => absurd h (by omega), fun _ => ⟨hb43, hb46⟩⟩ (.inr (by omega)) (.inl (by omega)) (.inr (.inr ⟨by omega, by omega, by omega⟩))], M.bel⟩
           ·
            have hb136' := bne_eq_false_iff_eq.1 hb136
            refine sdo (v := .bool false) A (qb rfl rfl (fun w => (qz w).trans (by rw [hb136]))) λa A↦?_
            refine qa (hK135 _ _ (wp_cond_false (A.ev rfl) ?_))
            refine wp_skip (hK131 _ _ (wsk fun K138 hK138 => wsk fun K139 hK139 => wrl (sdo (v := .pointer (some ⟨g2, 0, none⟩)) A (qe TrV_fld_30_0 rfl rfl) λa A↦?_)))
            refine sdo A (qm M TrV_is1_3 rfl 0 rfl rfl) λa A↦?_
            refine sdo (v := .bool false) A (qb rfl rfl (fun w => (ql w).trans (by rw [show ((d.k == 8)) = false from (beq_eq_false_iff_ne.2 (by omega))]))) λa A↦?_
            refine qa (hK139 _ _ (wp_cond_false (A.ev rfl) ?_))
            refine wp_skip (hK138 _ _ (wsk fun K140 hK140 => wrl (sdo (v := .pointer (some ⟨g2, 0, none⟩)) A (qe TrV_fld_30_0 rfl rfl) λa A↦?_)))
            refine sdo A (qm M TrV_is1_3 rfl 0 rfl rfl) λa A↦?_
            refine sdo (v := .bool false) A (qb rfl rfl (fun w => (ql w).trans (by rw [show ((d.k == 9)) = false from (beq_eq_false_iff_ne.2 (by omega))]))) λa A↦?_
            refine sdm A λa A↦?_
            refine sdo (v := .pointer (some ⟨g2, 10, none⟩)) A (qe TrV_fld_30_5 rfl rfl) λa A↦?_
            refine sdo A (qm M TrV_is1_28 rfl 0 rfl rfl) λa A↦?_
            refine sdo A (qt Tryz.underlying28 rfl) λa A↦?_
            rcases tf ((((ts.length : Nat) : Int) == 0)) with hb141 | hb141
            ·
             have hb141' := eq_of_beq hb141
             refine sdo (v := .bool true) A (qb rfl rfl (fun w => (ql w).trans (by rw [hb141]))) λa A↦?_
             refine sdk (v := .bool true) A λa A↦?_
             refine sda A λa A↦?_
             refine qa (hK140 _ _ (wp_ret (hret _ _ (en1 A rfl (qh rfl) ?_))))
             subst hr
             exact ⟨by rw [show zd d.k d.n d.y.q d.s d.rl.length ts.length = true from by
              rw [zg, sh9 ⟨by omega, by omega, hb10⟩ ⟨fun h => absurd h (by omega), fun _ => ⟨hb43, hb46⟩⟩ (.inr (by omega)) (.inl (by omega)) ⟨fun h => by omega, fun h => absurd h (by omega), fun h h2 => by omega⟩]
              rw [if_neg (by omega)]
              exact decide_eq_true (by omega)], M.bel⟩
            ·
             have hb141' := ne_of_beq_false hb141
             refine sdo (v := .bool false) A (qb rfl rfl (fun w => (ql w).trans (by rw [hb141]))) λa A↦?_
             refine sdk (v := .bool false) A λa A↦?_
             refine sda A λa A↦?_
             refine qa (hK140 _ _ (wp_ret (hret _ _ (en1 A rfl (qh rfl) ?_))))
             subst hr
             exact ⟨by rw [show zd d.k d.n d.y.q d.s d.rl.length ts.length = false from by
              rw [zg, sh9 ⟨by omega, by omega, hb10⟩ ⟨fun h => absurd h (by omega), fun _ => ⟨hb43, hb46⟩⟩ (.inr (by omega)) (.inl (by omega)) ⟨fun h => by omega, fun h => absurd h (by omega), fun h h2 => by omega⟩]
              rw [if_neg (by omega)]
              exact decide_eq_false (by omega)], M.bel⟩
        ·
         have hb108' := bne_eq_false_iff_eq.1 hb108
         refine sdo (v := .bool false) A (qb rfl rfl (fun w => (qz w).trans (by rw [hb108]))) λa A↦?_
         refine sdk (v := .bool false) A λa A↦?_
         refine sdm A λa A↦?_
         iterate 3 refine qk A rfl rfl rfl λa A↦?_
         refine sdk (v := .bool false) A λa A↦?_
         refine sdm A λa A↦?_
         iterate 3 refine qk A rfl rfl rfl λa A↦?_
         refine sdk (v := .bool false) A λa A↦?_
         refine qa (hK50 _ _ (wp_cond_false (A.ev rfl) ?_))
         refine wp_skip (hK49 _ _ (wsk fun K142 hK142 => wsk fun K143 hK143 => wrl (sdo (v := .pointer (some ⟨g2, 9, none⟩)) A (qe TrV_fld_30_4 rfl rfl) λa A↦?_)))
         refine sdo A (qm M TrV_is1_27 rfl 0 rfl rfl) λa A↦?_
         refine sdo A (qt Tryz.underlying27 rfl) λa A↦?_
         rcases tf (decide (0 < ((d.rl.length : Nat) : Int))) with hb144 | hb144
         ·
          have hb144' := of_decide_eq_true hb144
          refine sdo (v := .bool true) A (qb rfl rfl (fun w => (jd w).trans (by rw [hb144]))) λa A↦?_
          refine sdm A λa A↦?_
          refine sdo (v := .pointer (some ⟨g2, 0, none⟩)) A (qe TrV_fld_30_0 rfl rfl) λa A↦?_
          refine sdo A (qm M TrV_is1_3 rfl 0 rfl rfl) λa A↦?_
          refine sdo (v := .bool true) A (qb rfl rfl (fun w => (qz w).trans (by rw [show ((d.k != 7)) = true from (bne_iff_ne.2 (by omega))]))) λa A↦?_
          refine sdk (v := .bool true) A λa A↦?_
          refine qa (hK143 _ _ (wp_cond_true (A.ev rfl) ?_))
          refine wsk fun K145 hK145 => wrl (sda A λa A↦?_)
          refine qa (hK145 _ _ (wp_ret (hret _ _ (en1 A rfl (qh rfl) ?_))))
          subst hr
          exact ⟨by rw [show zd d.k d.n d.y.q d.s d.rl.length ts.length = false from by rw [zg]; exact sh5 ⟨by omega, by omega, hb10⟩ ⟨fun h => absurd h (by omega), fun _ => ⟨hb43, hb46⟩⟩ (.inr (by omega)) ⟨by omega, by omega⟩], M.bel⟩
         ·
          have hb144' := of_decide_eq_false hb144
          refine sdo (v := .bool false) A (qb rfl rfl (fun w => (jd w).trans (by rw [hb144]))) λa A↦?_
          refine sdm A λa A↦?_
          iterate 3 refine qk A rfl rfl rfl λa A↦?_
          refine sdk (v := .bool false) A λa A↦?_
          refine qa (hK143 _ _ (wp_cond_false (A.ev rfl) ?_))
          refine wp_skip (hK142 _ _ (wsk fun K146 hK146 => wsk fun K147 hK147 => wrl (sdo (v := .pointer (some ⟨g2, 0, none⟩)) A (qe TrV_fld_30_0 rfl rfl) λa A↦?_)))
          refine sdo A (qm M TrV_is1_3 rfl 0 rfl rfl) λa A↦?_
          refine qa (hK147 _ _ (wp_block (wsk fun K148 hK148 => wrl (sdo (v := .bool false) A (qb rfl rfl (fun w => (ql w).trans (by rw [show ((d.k == 2)) = false from (beq_eq_false_iff_ne.2 (by omega))]))) λa A↦?_))))
          refine sda A λa A↦?_
          refine qa (hK148 _ _ (wp_cond_false (A.ev rfl) ?_))
          refine wsk fun K149 hK149 => wrl (sdo (v := .bool false) A (qb rfl rfl (fun w => (ql w).trans (by rw [show ((d.k == 4)) = false from (beq_eq_false_iff_ne.2 (by omega))]))) λa A↦?_)
          refine sda A λa A↦?_
          refine qa (hK149 _ _ (wp_cond_false (A.ev rfl) ?_))
          refine wsk fun K150 hK150 => wrl (sdo (v := .pointer (some ⟨g2, 1, none⟩)) A (qe TrV_fld_30_1 rfl rfl) λa A↦?_)
          refine sdo A (qm M TrV_is1_3 rfl 0 rfl rfl) λa A↦?_
          rcases tf ((d.n != 0)) with hb151 | hb151
          ·
           have hb151' := bne_iff_ne.1 hb151
           refine sdo (v := .bool true) A (qb rfl rfl (fun w => (qz w).trans (by rw [hb151]))) λa A↦?_
           refine qa (hK150 _ _ (wp_cond_true (A.ev rfl) ?_))
           refine wsk fun K152 hK152 => wrl (sda A λa A↦?_)
           refine qa (hK152 _ _ (wp_ret (hret _ _ (en1 A rfl (qh rfl) ?_))))
           subst hr
           exact ⟨by rw [show zd d.k d.n d.y.q d.s d.rl.length ts.length = false from by rw [zg]; exact sh6 ⟨by omega, by omega, hb10⟩ ⟨fun h => absurd h (by omega), fun _ => ⟨hb43, hb46⟩⟩ (.inr (by omega)) (.inl (by omega)) (.inr (.inr ⟨by omega, by omega, by omega⟩))], M.bel⟩
          ·
           have hb151' := bne_eq_false_iff_eq.1 hb151
           refine sdo (v := .bool false) A (qb rfl rfl (fun w => (qz w).trans (by rw [hb151]))) λa A↦?_
           refine qa (hK150 _ _ (wp_cond_false (A.ev rfl) ?_))
           refine wp_skip (hK146 _ _ (wsk fun K153 hK153 => wsk fun K154 hK154 => wrl (sdo (v := .pointer (some ⟨g2, 0, none⟩)) A (qe TrV_fld_30_0 rfl rfl) λa A↦?_)))
           refine sdo A (qm M TrV_is1_3 rfl 0 rfl rfl) λa A↦?_
           refine sdo (v := .bool false) A (qb rfl rfl (fun w => (ql w).trans (by rw [show ((d.k == 8)) = false from (beq_eq_false_iff_ne.2 (by omega))]))) λa A↦?_
           refine qa (hK154 _ _ (wp_cond_false (A.ev rfl) ?_))
           refine wp_skip (hK153 _ _ (wsk fun K155 hK155 => wrl (sdo (v := .pointer (some ⟨g2, 0, none⟩)) A (qe TrV_fld_30_0 rfl rfl) λa A↦?_)))
           refine sdo A (qm M TrV_is1_3 rfl 0 rfl rfl) λa A↦?_
           refine sdo (v := .bool false) A (qb rfl rfl (fun w => (ql w).trans (by rw [show ((d.k == 9)) = false from (beq_eq_false_iff_ne.2 (by omega))]))) λa A↦?_
           refine sdm A λa A↦?_
           refine sdo (v := .pointer (some ⟨g2, 10, none⟩)) A (qe TrV_fld_30_5 rfl rfl) λa A↦?_
           refine sdo A (qm M TrV_is1_28 rfl 0 rfl rfl) λa A↦?_
           refine sdo A (qt Tryz.underlying28 rfl) λa A↦?_
           rcases tf ((((ts.length : Nat) : Int) == 0)) with hb156 | hb156
           ·
            have hb156' := eq_of_beq hb156
            refine sdo (v := .bool true) A (qb rfl rfl (fun w => (ql w).trans (by rw [hb156]))) λa A↦?_
            refine sdk (v := .bool true) A λa A↦?_
            refine sda A λa A↦?_
            refine qa (hK155 _ _ (wp_ret (hret _ _ (en1 A rfl (qh rfl) ?_))))
            subst hr
            exact ⟨by rw [show zd d.k d.n d.y.q d.s d.rl.length ts.length = true from by
             rw [zg, sh9 ⟨by omega, by omega, hb10⟩ ⟨fun h => absurd h (by omega), fun _ => ⟨hb43, hb46⟩⟩ (.inr (by omega)) (.inl (by omega)) ⟨fun h => by omega, fun h => absurd h (by omega), fun h h2 => by omega⟩]
             rw [if_neg (by omega)]
             exact decide_eq_true (by omega)], M.bel⟩
           ·
            have hb156' := ne_of_beq_false hb156
            refine sdo (v := .bool false) A (qb rfl rfl (fun w => (ql w).trans (by rw [hb156]))) λa A↦?_
            refine sdk (v := .bool false) A λa A↦?_
            refine sda A λa A↦?_
            refine qa (hK155 _ _ (wp_ret (hret _ _ (en1 A rfl (qh rfl) ?_))))
            subst hr
            exact ⟨by rw [show zd d.k d.n d.y.q d.s d.rl.length ts.length = false from by
             rw [zg, sh9 ⟨by omega, by omega, hb10⟩ ⟨fun h => absurd h (by omega), fun _ => ⟨hb43, hb46⟩⟩ (.inr (by omega)) (.inl (by omega)) ⟨fun h => by omega, fun h => absurd h (by omega), fun h h2 => by omega⟩]
             rw [if_neg (by omega)]
             exact decide_eq_false (by omega)], M.bel⟩
      ·
       refine qi A rfl rfl rfl (qf rfl rfl (fun w => by kernel_rfl)) (qbc hok.len.l3 hok.len.l4 hb46) ?_
       rintro _ w158 ⟨rfl, hb157⟩
       replace M := M.call hb157
       refine ⟨_, rfl, ?_⟩
       intro a A
       refine sdo (v := .bool true) A (zl rfl zu) λa A↦?_
       refine sdk (v := .bool true) A λa A↦?_
       refine qa (hK42 _ _ (wp_cond_true (A.ev rfl) ?_))
       refine wsk fun K159 hK159 => wrl (sda A λa A↦?_)
       refine qa (hK159 _ _ (wp_ret (hret _ _ (en1 A rfl (qh rfl) ?_))))
       subst hr
       exact ⟨by rw [show zd d.k d.n d.y.q d.s d.rl.length ts.length = false from by rw [zg]; exact sh3 ⟨by omega, by omega, hb10⟩ (by omega) (.inr hb46)], M.bel⟩
     ·
      refine qi A rfl rfl rfl (qf rfl rfl (fun w => by kernel_rfl)) (qbc hok.len.l1 hok.len.l2 hb43) ?_
      rintro _ w161 ⟨rfl, hb160⟩
      replace M := M.call hb160
      refine ⟨_, rfl, ?_⟩
      intro a A
      refine sdo (v := .bool true) A (zl rfl zu) λa A↦?_
      refine sdm A λa A↦?_
      iterate 5 refine qk A rfl rfl rfl λa A↦?_
      refine sdk (v := .bool true) A λa A↦?_
      refine qa (hK42 _ _ (wp_cond_true (A.ev rfl) ?_))
      refine wsk fun K162 hK162 => wrl (sda A λa A↦?_)
      refine qa (hK162 _ _ (wp_ret (hret _ _ (en1 A rfl (qh rfl) ?_))))
      subst hr
      exact ⟨by rw [show zd d.k d.n d.y.q d.s d.rl.length ts.length = false from by rw [zg]; exact sh3 ⟨by omega, by omega, hb10⟩ (by omega) (.inl hb43)], M.bel⟩
   ·
    refine qi A rfl rfl rfl (qf rfl rfl (fun w => by kernel_rfl)) (qjg hs2 hb10) ?_
    rintro _ w164 ⟨rfl, hb163⟩
    replace M := M.call hb163
    refine ⟨_, rfl, ?_⟩
    intro a A
    refine sdo (v := .bool true) A (zl rfl zu) λa A↦?_
    refine sdk (v := .bool true) A λa A↦?_
    refine qa (hK5 _ _ (wp_cond_true (A.ev rfl) ?_))
    refine wsk fun K165 hK165 => wrl (sda A λa A↦?_)
    refine qa (hK165 _ _ (wp_ret (hret _ _ (en1 A rfl (qh rfl) ?_))))
    subst hr
    exact ⟨by rw [show zd d.k d.n d.y.q d.s d.rl.length ts.length = false from by rw [zg]; exact sh1 (.inr (.inr hb10))], M.bel⟩
theorem TrC_is1_28 : Is1 Tryz.prog 28 := ⟨⟨_, Tryz.underlying28, rfl⟩, by kernel_rfl⟩
theorem TrC_fld_30_5 : FieldAt Tryz.prog 30 5 10 := ⟨_, _, Tryz.underlying30, rfl, rfl, by kernel_rfl⟩
theorem TrC_isS_30 : IsS Tryz.prog 30 11 := ⟨⟨_, Tryz.underlying30⟩, by kernel_rfl⟩
theorem Mg.here {w0 w : World} {L : List Ck} (h : Mg w0 w L) (k : Nat) {g : Nat} {cs : List Value} {t : TypeId} (hk : L[k]? = some (.obj g (.cells cs.toArray t))) : Here w g 0 cs := ⟨(Array.getElem?_eq_some_iff.1 (h.obj k hk)).1, fun j v hj => by rw [Nat.zero_add]; exact h.cell k hk j hj⟩
def Through (t : Dt) : Prop := ∀ {w : World}, t.rd w → Tabs8 w → Calls Tryz.prog 33 #[.agg t.cells.toArray] w fun e w' => e = .returned (.bool (ut zy t.tr)) ∧ Below w.heap.size w w'
theorem qfj : ∀ t : Dt, Through t := Dt.indT fun d ts ih => by
 intro w hrd hT
 have hok := (Dt.rd_iff.1 hrd)
 have hlen : ts.length ≤ 9223372036854775807 := Nat.le_trans hok.2.1 hok.2.2.1
 have M : Mg w w ([]) := Mg.start w
 refine ze (l := [(0, .agg (d.cells ts.length).toArray)]) Tryz.func33 rfl Tryz.ntmps33 rfl rfl ?_
 intro Q hret hnorm hP a A
 refine wsk fun K1 hK1 => wrl (xe (vs := [.int .i64 d.k, .int .i64 d.n, .bool d.y.q.b1, .slice d.y.o1 d.y.q.t1.length d.y.c1, .slice d.y.o2 d.y.q.q1.length d.y.c2, .bool d.y.q.b2, .slice d.y.o3 d.y.q.t2.length d.y.c3, .slice d.y.o4 d.y.q.q2.length d.y.c4, .string d.s, .slice d.ro d.rl.length d.rc, .slice d.lo ts.length d.lc]) (t := 30) A M rfl rfl rfl pg (qx rfl rfl) (by decide) ?_)
 intro g2 w3 M a A
 refine sda A λa A↦?_
 refine qa (hK1 _ _ (wsk fun K4 hK4 => wsk fun K5 hK5 => wrl (sdo A (zf M TrC_isS_30 rfl 0 rfl (cs := [.int .i64 d.k, .int .i64 d.n, .bool d.y.q.b1, .slice d.y.o1 d.y.q.t1.length d.y.c1, .slice d.y.o2 d.y.q.q1.length d.y.c2, .bool d.y.q.b2, .slice d.y.o3 d.y.q.t2.length d.y.c3, .slice d.y.o4 d.y.q.q2.length d.y.c4, .string d.s, .slice d.ro d.rl.length d.rc, .slice d.lo ts.length d.lc]) rfl rfl) λa A↦?_)))
 rcases tf (zd d.k d.n d.y.q d.s d.rl.length ts.length) with hb6 | hb6
 ·
  refine qi A rfl rfl rfl (qf rfl rfl (fun w => by kernel_rfl)) ((hb6 ▸ qjf (ts := ts) (hok.1.below M.bel) (hT.below M.bel))) ?_
  rintro _ w8 ⟨rfl, hb7⟩
  replace M := M.call hb7
  refine ⟨_, rfl, ?_⟩
  intro a A
  refine sdo (v := .bool false) A (zl rfl zu) λa A↦?_
  refine qa (hK5 _ _ (wp_cond_false (A.ev rfl) ?_))
  refine wp_skip (hK4 _ _ (wsk fun K9 hK9 => wsk fun K10 hK10 => wrl (sdo (v := .pointer (some ⟨g2, 10, none⟩)) A (qe TrC_fld_30_5 rfl rfl) λa A↦?_)))
  refine sdo A (qm M TrC_is1_28 rfl 0 rfl rfl) λa A↦?_
  refine sdo A (qt Tryz.underlying28 rfl) λa A↦?_
  refine sdm A λa A↦?_
  refine qa (hK10 _ _ (wp_block (jr (fun m_ a w1 => ∃ (i : Nat), m_ = 1 + (ts.length - i) ∧ (i ≤ ts.length ∧ qbj zy ((ts.map Dt.tr).drop 0) = qbj zy ((ts.map Dt.tr).drop i)) ∧ Sl a 19 [(0, .agg (d.cells ts.length).toArray), (1, .pointer (some ⟨g2, 0, none⟩)), (5, .agg (d.cells ts.length).toArray), (6, .bool true), (7, .bool false), (8, .pointer (some ⟨g2, 10, none⟩)), (9, .slice d.lo ts.length d.lc), (10, .int .i64 (((ts.length : Nat) : Int))), (11, .int .i64 (((i : Nat) : Int)))] ∧ Mg w w1 (.obj g2 (.cells (d.cells ts.length).toArray 30) :: [])) _ ⟨0, rfl, ⟨Nat.zero_le _, rfl⟩, A.keep _ ⟨rfl, rfl, rfl, rfl, rfl, rfl, rfl, rfl, rfl, trivial⟩, M⟩ ?_)))
  clear M A
  rintro m_ a w11 ⟨i, rfl, hinv13, A, M⟩ K12 hK12
  obtain ⟨hi0, hin9⟩ := hinv13
  refine wsk fun K14 hK14 => wrl ?_
  rcases tf (decide (((i : Nat) : Int) < ((ts.length : Nat) : Int))) with hb15 | hb15
  ·
   have hb15' := of_decide_eq_true hb15
   refine sdo (v := .bool true) A (qb rfl rfl (fun w => (zk w).trans (by rw [hb15]))) λa A↦?_
   refine qa (hK14 _ _ (wsk fun K16 hK16 => wp_cond_true (A.ev rfl) ?_))
   refine wp_skip (hK16 _ _ (wsk fun K17 hK17 => wp_block (wsk fun K18 hK18 => ?_)))
   obtain ⟨t1, b1, o1, hi1, hm1, hr1, hl1, hH1⟩ := kid hrd (i := i) (by omega)
   refine wrl (sdo (v := .pointer (some ⟨b1, o1 + i * 11, none⟩)) A (zx (k := i) Tryz.underlying28 (by kernel_rfl) rfl rfl rfl hl1 (by omega)) λa A↦?_)
   refine sdo A (jt M hH1 TrC_isS_30 rfl rfl) λa A↦?_
   refine xe (vs := [.int .i64 0, .int .i64 0, .bool false, .slice none 0 0, .slice none 0 0, .bool false, .slice none 0 0, .slice none 0 0, .string (⟨#[]⟩), .slice none 0 0, .slice none 0 0]) (t := 30) A M rfl rfl rfl pg (qy (z := .agg #[.int .i64 0, .int .i64 0, .bool false, .slice none 0 0, .slice none 0 0, .bool false, .slice none 0 0, .slice none 0 0, .string (⟨#[]⟩), .slice none 0 0, .slice none 0 0]) (by kernel_rfl) rfl) (by decide) ?_
   intro g19 w20 M a A
   refine js (us := [.int .i64 t1.d.k, .int .i64 t1.d.n, .bool t1.d.y.q.b1, .slice t1.d.y.o1 t1.d.y.q.t1.length t1.d.y.c1, .slice t1.d.y.o2 t1.d.y.q.q1.length t1.d.y.c2, .bool t1.d.y.q.b2, .slice t1.d.y.o3 t1.d.y.q.t2.length t1.d.y.c3, .slice t1.d.y.o4 t1.d.y.q.q2.length t1.d.y.c4, .string t1.d.s, .slice t1.d.ro t1.d.rl.length t1.d.rc, .slice t1.d.lo t1.ts.length t1.d.lc]) (L' := (.obj g19 (.cells (t1.d.cells t1.ts.length).toArray 30) :: .obj g2 (.cells (d.cells ts.length).toArray 30) :: [])) A M rfl rfl (jh rfl rfl rfl (by kernel_rfl) M 0 rfl rfl rfl) 0 rfl rfl rfl ?_
   intro w21 M
   refine qa (hK18 _ _ (wsk fun K22 hK22 => wrl (sdo A (zf M TrC_isS_30 rfl 0 rfl (cs := [.int .i64 t1.d.k, .int .i64 t1.d.n, .bool t1.d.y.q.b1, .slice t1.d.y.o1 t1.d.y.q.t1.length t1.d.y.c1, .slice t1.d.y.o2 t1.d.y.q.q1.length t1.d.y.c2, .bool t1.d.y.q.b2, .slice t1.d.y.o3 t1.d.y.q.t2.length t1.d.y.c3, .slice t1.d.y.o4 t1.d.y.q.q2.length t1.d.y.c4, .string t1.d.s, .slice t1.d.ro t1.d.rl.length t1.d.rc, .slice t1.d.lo t1.ts.length t1.d.lc]) rfl rfl) λa A↦?_)))
   rcases tf (ut zy t1.tr) with hb23 | hb23
   ·
    refine qi A rfl rfl rfl (qf rfl rfl (fun w => by kernel_rfl)) ((hb23 ▸ ih t1 hm1 (Dt.keep M.bel _ hr1) (hT.below M.bel))) ?_
    rintro _ w25 ⟨rfl, hb24⟩
    replace M := M.call hb24
    refine ⟨_, rfl, ?_⟩
    intro a A
    refine sdo (v := .bool false) A (zl rfl zu) λa A↦?_
    refine qa (hK22 _ _ (wp_cond_false (A.ev rfl) ?_))
    refine wp_skip (hK17 _ _ (wrl (sdo (v := .int .i64 (((i + 1 : Nat) : Int))) A (qb rfl rfl (fun w => (xj (vq (by omega) (by omega)) w).trans (by rw [show (((i : Nat) : Int) + 1 : Int) = ((i + 1 : Nat) : Int) from by omega]))) λa A↦?_)))
    refine sdm A λa A↦?_
    refine qa ?_
    replace M : Mg w w25 (.obj g2 (.cells (d.cells ts.length).toArray 30) :: []) := by
     have h9 := M.sub (.cons _ (.cons_cons _ (.refl _)))
     exact h9
    refine hK12 _ _ _ (by omega) ⟨i + 1, rfl, ⟨by omega, by rw [hin9, allL_go hi1, hb23, Bool.true_and]⟩, A.keep _ ⟨rfl, rfl, rfl, rfl, rfl, rfl, rfl, rfl, rfl, trivial⟩, M⟩
   ·
    refine qi A rfl rfl rfl (qf rfl rfl (fun w => by kernel_rfl)) ((hb23 ▸ ih t1 hm1 (Dt.keep M.bel _ hr1) (hT.below M.bel))) ?_
    rintro _ w27 ⟨rfl, hb26⟩
    replace M := M.call hb26
    refine ⟨_, rfl, ?_⟩
    intro a A
    refine sdo (v := .bool true) A (zl rfl zu) λa A↦?_
    refine qa (hK22 _ _ (wp_cond_true (A.ev rfl) ?_))
    refine wsk fun K28 hK28 => wrl (sda A λa A↦?_)
    refine qa (hK28 _ _ (wp_ret (hret _ _ (en1 A rfl (qh rfl) ?_))))
    rw [show ut zy (Dt.mk d ts).tr = false from by rw [qha, kj, hb6, Bool.true_and, hin9, allL_go hi1, hb23, Bool.false_and]]
    exact ⟨rfl, M.bel⟩
  ·
   have hb15' := of_decide_eq_false hb15
   refine sdo (v := .bool false) A (qb rfl rfl (fun w => (zk w).trans (by rw [hb15]))) λa A↦?_
   refine qa (hK14 _ _ (wsk fun K29 hK29 => wp_cond_false (A.ev rfl) ?_))
   refine wp_exit (hK9 _ _ (wsk fun K30 hK30 => wrl (sda A λa A↦?_)))
   refine qa (hK30 _ _ (wp_ret (hret _ _ (en1 A rfl (qh rfl) ?_))))
   rw [show ut zy (Dt.mk d ts).tr = true from by rw [qha, kj, hb6, Bool.true_and, hin9, ug (by omega), qbj]]
   exact ⟨rfl, M.bel⟩
 ·
  refine qi A rfl rfl rfl (qf rfl rfl (fun w => by kernel_rfl)) ((hb6 ▸ qjf (ts := ts) (hok.1.below M.bel) (hT.below M.bel))) ?_
  rintro _ w32 ⟨rfl, hb31⟩
  replace M := M.call hb31
  refine ⟨_, rfl, ?_⟩
  intro a A
  refine sdo (v := .bool true) A (zl rfl zu) λa A↦?_
  refine qa (hK5 _ _ (wp_cond_true (A.ev rfl) ?_))
  refine wsk fun K33 hK33 => wrl (sda A λa A↦?_)
  refine qa (hK33 _ _ (wp_ret (hret _ _ (en1 A rfl (qh rfl) ?_))))
  rw [show ut zy (Dt.mk d ts).tr = false from by rw [qha, kj, hb6, Bool.false_and]]
  exact ⟨rfl, M.bel⟩
theorem fits_any {w : World} {d : Nd} {ts : List Dt} (hrd : (Dt.mk d ts).rd w) : Calls Tryz.prog 32 #[.agg (d.cells ts.length).toArray] w fun e w' => e = .returned (.bool (jx 1 20000 (Dt.mk d ts).tr).1) ∧ Below w.heap.size w w' := by
 have M : Mg w w ([]) := Mg.start w
 refine ze (l := [(0, .agg (d.cells ts.length).toArray)]) Tryz.func32 rfl Tryz.ntmps32 rfl rfl ?_
 intro Q hret hnorm hP a A
 refine wsk fun K1 hK1 => wrl (xe (vs := [.int .i64 d.k, .int .i64 d.n, .bool d.y.q.b1, .slice d.y.o1 d.y.q.t1.length d.y.c1, .slice d.y.o2 d.y.q.q1.length d.y.c2, .bool d.y.q.b2, .slice d.y.o3 d.y.q.t2.length d.y.c3, .slice d.y.o4 d.y.q.q2.length d.y.c4, .string d.s, .slice d.ro d.rl.length d.rc, .slice d.lo ts.length d.lc]) (t := 30) A M rfl rfl rfl pg (qx rfl rfl) (by decide) ?_)
 intro g2 w3 M a A
 refine sda A λa A↦?_
 refine qa (hK1 _ _ (wsk fun K4 hK4 => ?_))
 have hB1 := M.bel
 have hH1 := M.here 0 (cs := d.cells ts.length) rfl
 replace M : Mg w3 w3 [] := Mg.start w3
 refine wrl (xe (vs := [.int .i64 0]) (t := 3) A M rfl rfl rfl pg (qy (z := .int .i64 0) (by kernel_rfl) rfl) (by decide) ?_)
 intro g5 w6 M a A
 refine js (us := [.int .i64 20000]) (L' := (.obj g5 (.cells #[.int .i64 20000] 3) :: [])) A M rfl rfl (jh rfl rfl rfl (by kernel_rfl) M 0 rfl rfl rfl) 0 rfl rfl rfl ?_
 intro w7 M
 refine qa (hK4 _ _ (wsk fun K8 hK8 => wrl (qi A rfl rfl rfl (qf rfl rfl (fun w => by kernel_rfl)) (fitsAt_all (Dt.mk d ts) (Dt.keep hB1 _ hrd) hH1 M (by omega) (by omega) (by omega) (by omega)) ?_)))
 rintro _ w10 ⟨rfl, hM9⟩
 replace M : Mg w3 w10 (.obj g5 (.cells #[.int .i64 ((jx 1 20000 (Dt.mk d ts).tr).2)] 3) :: []) := hM9
 refine ⟨_, rfl, ?_⟩
 intro a A
 refine sda A λa A↦?_
 refine qa (hK8 _ _ (wp_ret (hret _ _ (en1 A rfl (qh rfl) ?_))))
 exact ⟨rfl, hB1.trans (M.bel.mono hB1.size)⟩
theorem sound_mk {w : World} {d : Nd} {ts : List Dt} (hrd : (Dt.mk d ts).rd w) (hT : Tabs8 w) : Calls Tryz.prog 18 #[.agg (d.cells ts.length).toArray] w fun e w' => e = .returned (.bool (jl zy (Dt.mk d ts).tr)) ∧ Below w.heap.size w w' := by
 have M : Mg w w ([]) := Mg.start w
 refine ze (l := [(0, .agg (d.cells ts.length).toArray)]) Tryz.func18 rfl Tryz.ntmps18 rfl rfl ?_
 intro Q hret hnorm hP a A
 refine wsk fun K1 hK1 => wrl (xe (vs := [.int .i64 d.k, .int .i64 d.n, .bool d.y.q.b1, .slice d.y.o1 d.y.q.t1.length d.y.c1, .slice d.y.o2 d.y.q.q1.length d.y.c2, .bool d.y.q.b2, .slice d.y.o3 d.y.q.t2.length d.y.c3, .slice d.y.o4 d.y.q.q2.length d.y.c4, .string d.s, .slice d.ro d.rl.length d.rc, .slice d.lo ts.length d.lc]) (t := 30) A M rfl rfl rfl pg (qx rfl rfl) (by decide) ?_)
 intro g2 w3 M a A
 refine sda A λa A↦?_
 refine qa (hK1 _ _ (wsk fun K4 hK4 => wrl (sdo A (zf M TrC_isS_30 rfl 0 rfl (cs := [.int .i64 d.k, .int .i64 d.n, .bool d.y.q.b1, .slice d.y.o1 d.y.q.t1.length d.y.c1, .slice d.y.o2 d.y.q.q1.length d.y.c2, .bool d.y.q.b2, .slice d.y.o3 d.y.q.t2.length d.y.c3, .slice d.y.o4 d.y.q.q2.length d.y.c4, .string d.s, .slice d.ro d.rl.length d.rc, .slice d.lo ts.length d.lc]) rfl rfl) λa A↦?_)))
 rcases tf ((jx 1 20000 (Dt.mk d ts).tr).1) with hb5 | hb5
 ·
  refine qi A rfl rfl rfl (qf rfl rfl (fun w => by kernel_rfl)) ((hb5 ▸ fits_any (Dt.keep M.bel _ hrd))) ?_
  rintro _ w7 ⟨rfl, hb6⟩
  replace M := M.call hb6
  refine ⟨_, rfl, ?_⟩
  intro a A
  refine sdm A λa A↦?_
  refine sdo A (zf M TrC_isS_30 rfl 0 rfl (cs := [.int .i64 d.k, .int .i64 d.n, .bool d.y.q.b1, .slice d.y.o1 d.y.q.t1.length d.y.c1, .slice d.y.o2 d.y.q.q1.length d.y.c2, .bool d.y.q.b2, .slice d.y.o3 d.y.q.t2.length d.y.c3, .slice d.y.o4 d.y.q.q2.length d.y.c4, .string d.s, .slice d.ro d.rl.length d.rc, .slice d.lo ts.length d.lc]) rfl rfl) λa A↦?_
  rcases tf (ut zy (Dt.mk d ts).tr) with hb8 | hb8
  ·
   refine qi A rfl rfl rfl (qf rfl rfl (fun w => by kernel_rfl)) ((hb8 ▸ qfj (Dt.mk d ts) (Dt.keep M.bel _ hrd) (hT.below M.bel))) ?_
   rintro _ w10 ⟨rfl, hb9⟩
   replace M := M.call hb9
   refine ⟨_, rfl, ?_⟩
   intro a A
   refine sdk (v := .bool true) A λa A↦?_
   refine sda A λa A↦?_
   refine qa (hK4 _ _ (wp_ret (hret _ _ (en1 A rfl (qh rfl) ?_))))
   exact ⟨by unfold jl; simp_all, M.bel⟩
  ·
   refine qi A rfl rfl rfl (qf rfl rfl (fun w => by kernel_rfl)) ((hb8 ▸ qfj (Dt.mk d ts) (Dt.keep M.bel _ hrd) (hT.below M.bel))) ?_
   rintro _ w12 ⟨rfl, hb11⟩
   replace M := M.call hb11
   refine ⟨_, rfl, ?_⟩
   intro a A
   refine sdk (v := .bool false) A λa A↦?_
   refine sda A λa A↦?_
   refine qa (hK4 _ _ (wp_ret (hret _ _ (en1 A rfl (qh rfl) ?_))))
   exact ⟨by unfold jl; simp_all, M.bel⟩
 ·
  refine qi A rfl rfl rfl (qf rfl rfl (fun w => by kernel_rfl)) ((hb5 ▸ fits_any (Dt.keep M.bel _ hrd))) ?_
  rintro _ w14 ⟨rfl, hb13⟩
  replace M := M.call hb13
  refine ⟨_, rfl, ?_⟩
  intro a A
  refine sdm A λa A↦?_
  iterate 2 refine qk A rfl rfl rfl λa A↦?_
  refine sdk (v := .bool false) A λa A↦?_
  refine sda A λa A↦?_
  refine qa (hK4 _ _ (wp_ret (hret _ _ (en1 A rfl (qh rfl) ?_))))
  exact ⟨by unfold jl; simp_all, M.bel⟩
theorem sound_any {w : World} {t : Dt} (hrd : t.rd w) (hT : Tabs8 w) : Calls Tryz.prog 18 #[.agg t.cells.toArray] w fun e w' => e = .returned (.bool (jl zy t.tr)) ∧ Below w.heap.size w w' := by
 obtain ⟨d, ts⟩ := t
 exact sound_mk hrd hT
theorem TrW_is1_28 : Is1 Tryz.prog 28 := ⟨⟨_, Tryz.underlying28, rfl⟩, by kernel_rfl⟩
theorem TrW_is1_3 : Is1 Tryz.prog 3 := ⟨⟨_, Tryz.underlying3, rfl⟩, by kernel_rfl⟩
theorem TrW_fld_30_0 : FieldAt Tryz.prog 30 0 0 := ⟨_, _, Tryz.underlying30, rfl, rfl, by kernel_rfl⟩
theorem TrW_fld_30_5 : FieldAt Tryz.prog 30 5 10 := ⟨_, _, Tryz.underlying30, rfl, rfl, by kernel_rfl⟩
theorem TrW_isS_30 : IsS Tryz.prog 30 11 := ⟨⟨_, Tryz.underlying30⟩, by kernel_rfl⟩
def Counts (t : Dt) : Prop := ∀ {w : World} {dp left : Int}, t.rd w → t.tr.bulk ≤ 2000000 → 0 ≤ left → left ≤ 20000 → 0 ≤ dp → dp ≤ 201 → Calls Tryz.prog 17 #[.agg t.cells.toArray, .int .i64 dp, .int .i64 left] w fun e w' => e = .returned (.int .i64 (qbf zy dp left t.tr)) ∧ Below w.heap.size w w'
theorem count_all : ∀ t : Dt, Counts t := Dt.indT fun d ts ih => by
 intro w dp left hrd hbk hl0 hl1 hd0 hd1
 have hok := (Dt.rd_iff.1 hrd)
 have hlen : ts.length ≤ 9223372036854775807 := Nat.le_trans hok.2.1 hok.2.2.1
 have M : Mg w w ([]) := Mg.start w
 refine ze (l := [(0, .agg (d.cells ts.length).toArray), (1, .int .i64 dp), (2, .int .i64 left)]) Tryz.func17 rfl Tryz.ntmps17 rfl rfl ?_
 intro Q hret hnorm hP a A
 refine wsk fun K1 hK1 => wrl (xe (vs := [.int .i64 d.k, .int .i64 d.n, .bool d.y.q.b1, .slice d.y.o1 d.y.q.t1.length d.y.c1, .slice d.y.o2 d.y.q.q1.length d.y.c2, .bool d.y.q.b2, .slice d.y.o3 d.y.q.t2.length d.y.c3, .slice d.y.o4 d.y.q.q2.length d.y.c4, .string d.s, .slice d.ro d.rl.length d.rc, .slice d.lo ts.length d.lc]) (t := 30) A M rfl rfl rfl pg (qx rfl rfl) (by decide) ?_)
 intro g2 w3 M a A
 refine sda A λa A↦?_
 refine qa (hK1 _ _ (wsk fun K4 hK4 => wsk fun K5 hK5 => wrl (sdm A λa A↦?_)))
 rcases tf (decide (200 < dp)) with hb6 | hb6
 ·
  have hb6' := of_decide_eq_true hb6
  refine sdo (v := .bool true) A (qb rfl rfl (fun w => (jd w).trans (by rw [hb6]))) λa A↦?_
  refine sdm A λa A↦?_
  iterate 2 refine qk A rfl rfl rfl λa A↦?_
  refine sdk (v := .bool true) A λa A↦?_
  refine sdm A λa A↦?_
  iterate 3 refine qk A rfl rfl rfl λa A↦?_
  refine sdk (v := .bool true) A λa A↦?_
  refine qa (hK5 _ _ (wp_cond_true (A.ev rfl) ?_))
  refine wsk fun K7 hK7 => wrl (sda A λa A↦?_)
  refine qa (hK7 _ _ (wp_ret (hret _ _ (en1 A rfl (qh rfl) ?_))))
  rw [cntT_no (by omega)]
  exact ⟨rfl, M.bel⟩
 ·
  have hb6' := of_decide_eq_false hb6
  refine sdo (v := .bool false) A (qb rfl rfl (fun w => (jd w).trans (by rw [hb6]))) λa A↦?_
  iterate 2 refine sdm A λa A↦?_
  rcases tf (decide (left ≤ 0)) with hb8 | hb8
  ·
   have hb8' := of_decide_eq_true hb8
   refine sdo (v := .bool true) A (qb rfl rfl (fun w => (jz w).trans (by rw [hb8]))) λa A↦?_
   refine sdk (v := .bool true) A λa A↦?_
   refine sdm A λa A↦?_
   iterate 3 refine qk A rfl rfl rfl λa A↦?_
   refine sdk (v := .bool true) A λa A↦?_
   refine qa (hK5 _ _ (wp_cond_true (A.ev rfl) ?_))
   refine wsk fun K9 hK9 => wrl (sda A λa A↦?_)
   refine qa (hK9 _ _ (wp_ret (hret _ _ (en1 A rfl (qh rfl) ?_))))
   rw [cntT_no (by omega)]
   exact ⟨rfl, M.bel⟩
  ·
   have hb8' := of_decide_eq_false hb8
   refine sdo (v := .bool false) A (qb rfl rfl (fun w => (jz w).trans (by rw [hb8]))) λa A↦?_
   refine sdk (v := .bool false) A λa A↦?_
   refine sdm A λa A↦?_
   refine sdo A (zf M TrW_isS_30 rfl 0 rfl (cs := [.int .i64 d.k, .int .i64 d.n, .bool d.y.q.b1, .slice d.y.o1 d.y.q.t1.length d.y.c1, .slice d.y.o2 d.y.q.q1.length d.y.c2, .bool d.y.q.b2, .slice d.y.o3 d.y.q.t2.length d.y.c3, .slice d.y.o4 d.y.q.q2.length d.y.c4, .string d.s, .slice d.ro d.rl.length d.rc, .slice d.lo ts.length d.lc]) rfl rfl) λa A↦?_
   rcases tf (zd d.k d.n d.y.q d.s d.rl.length ts.length) with hb10 | hb10
   ·
    refine qi A rfl rfl rfl (qf rfl rfl (fun w => by kernel_rfl)) (qjh (hok.1.below M.bel) (Nat.le_trans qed hbk) hlen hb10) ?_
    rintro _ w12 ⟨rfl, hb11⟩
    replace M := M.call hb11
    refine ⟨_, rfl, ?_⟩
    intro a A
    refine sdo (v := .bool false) A (zl rfl zu) λa A↦?_
    refine sdk (v := .bool false) A λa A↦?_
    refine qa (hK5 _ _ (wp_cond_false (A.ev rfl) ?_))
    refine wp_skip (hK4 _ _ (wsk fun K13 hK13 => wrl (sdm A λa A↦?_)))
    refine sdo (v := .int .i64 (left - 1)) A (qb rfl rfl (bin_sub (vq (by omega) (by omega)))) λa A↦?_
    refine sda A λa A↦?_
    refine qa (hK13 _ _ (wsk fun K14 hK14 => wsk fun K15 hK15 => wrl (sda A λa A↦?_)))
    refine qa (hK15 _ _ (wp_block (jr (fun m_ a w1 => ∃ (i : Nat) (m : Int), m_ = 1 + (ts.length - i) ∧ (i ≤ ts.length ∧ qch zy dp (decide (d.k = 8)) 0 (left - 1) ((ts.map Dt.tr).drop 0) = qch zy dp (decide (d.k = 8)) i m ((ts.map Dt.tr).drop i) ∧ -1 ≤ m ∧ m ≤ 20000) ∧ Sl a 52 [(0, .agg (d.cells ts.length).toArray), (1, .int .i64 dp), (2, .int .i64 m), (3, .pointer (some ⟨g2, 0, none⟩)), (6, .int .i64 0), (7, .int .i64 (((i : Nat) : Int))), (9, .int .i64 dp), (10, .bool false), (11, .bool false), (12, .int .i64 left), (13, .bool false), (14, .bool false), (15, .bool false), (16, .agg (d.cells ts.length).toArray), (17, .bool true), (18, .bool false), (19, .bool false), (20, .int .i64 left), (21, .int .i64 (left - 1))] ∧ Mg w w1 (.obj g2 (.cells (d.cells ts.length).toArray 30) :: [])) _ ⟨0, left - 1, rfl, ⟨Nat.zero_le _, rfl, by omega, by omega⟩, A.keep _ ⟨rfl, rfl, rfl, rfl, rfl, rfl, rfl, rfl, rfl, rfl, rfl, rfl, rfl, rfl, rfl, rfl, rfl, rfl, rfl, trivial⟩, M⟩ ?_)))
    clear M A
    rintro m_ a w16 ⟨i, m, rfl, hinv18, A, M⟩ K17 hK17
    obtain ⟨hi0, hin9, hm0, hm1_⟩ := hinv18
    refine wsk fun K19 hK19 => wsk fun K20 hK20 => wrl (sdm A λa A↦?_)
    refine sdo (v := .pointer (some ⟨g2, 10, none⟩)) A (qe TrW_fld_30_5 rfl rfl) λa A↦?_
    refine sdo A (qm M TrW_is1_28 rfl 0 rfl rfl) λa A↦?_
    refine sdo A (qt Tryz.underlying28 rfl) λa A↦?_
    rcases tf (decide (((i : Nat) : Int) < ((ts.length : Nat) : Int))) with hb21 | hb21
    ·
     have hb21' := of_decide_eq_true hb21
     refine sdo (v := .bool true) A (qb rfl rfl (fun w => (zk w).trans (by rw [hb21]))) λa A↦?_
     iterate 2 refine sdm A λa A↦?_
     rcases tf (decide (0 ≤ m)) with hb22 | hb22
     ·
      have hb22' := of_decide_eq_true hb22
      refine sdo (v := .bool true) A (qb rfl rfl (fun w => (xi w).trans (by rw [hb22]))) λa A↦?_
      refine sdk (v := .bool true) A λa A↦?_
      refine qa (hK20 _ _ (wp_cond_true (A.ev rfl) ?_))
      refine wp_skip (hK19 _ _ (wsk fun K23 hK23 => wp_block (wsk fun K24 hK24 => wrl (sdm A λa A↦?_))))
      refine sdo (v := .int .i64 (dp + 1)) A (qb rfl rfl (xj (vq (by omega) (by omega)))) λa A↦?_
      refine sda A λa A↦?_
      refine qa (hK24 _ _ (wsk fun K25 hK25 => wsk fun K26 hK26 => wrl (sdo (v := .pointer (some ⟨g2, 0, none⟩)) A (qe TrW_fld_30_0 rfl rfl) λa A↦?_)))
      refine sdo A (qm M TrW_is1_3 rfl 0 rfl rfl) λa A↦?_
      rcases tf ((d.k == 8)) with hb27 | hb27
      ·
       have hb27' := eq_of_beq hb27
       refine sdo (v := .bool true) A (qb rfl rfl (fun w => (ql w).trans (by rw [hb27]))) λa A↦?_
       iterate 2 refine sdm A λa A↦?_
       rcases tf ((((i : Nat) : Int) == 1)) with hb28 | hb28
       ·
        have hb28' := eq_of_beq hb28
        refine sdo (v := .bool true) A (qb rfl rfl (fun w => (ql w).trans (by rw [hb28]))) λa A↦?_
        refine sdk (v := .bool true) A λa A↦?_
        refine qa (hK26 _ _ (wp_cond_true (A.ev rfl) ?_))
        refine wrl (sdm A λa A↦?_)
        refine sda A λa A↦?_
        refine qa (hK25 _ _ ?_)
        obtain ⟨t1, b1, o1, hi1, hm1, hr1, hl1, hH1⟩ := kid hrd (i := i) (by omega)
        have hD : (if decide (d.k = 8) = true ∧ i = 1 then dp else dp + 1) = dp := if_pos ⟨decide_eq_true hb27', by omega⟩
        refine wrl (sdo (v := .pointer (some ⟨g2, 10, none⟩)) A (qe TrW_fld_30_5 rfl rfl) λa A↦?_)
        refine sdo A (qm M TrW_is1_28 rfl 0 rfl rfl) λa A↦?_
        refine sdm A λa A↦?_
        refine sdo (v := .pointer (some ⟨b1, o1 + i * 11, none⟩)) A (zx (k := i) Tryz.underlying28 (by kernel_rfl) rfl rfl rfl hl1 (by omega)) λa A↦?_
        refine sdo A (jt M hH1 TrW_isS_30 rfl rfl) λa A↦?_
        iterate 2 refine sdm A λa A↦?_
        refine qi A rfl rfl rfl (qf rfl rfl (fun w => by kernel_rfl)) (ih t1 hm1 (Dt.keep M.bel _ hr1) (by have := qcj (d := d) hm1; omega) (by omega) (by omega) (by omega) (by omega)) ?_
        rintro _ w30 ⟨rfl, hb29⟩
        replace M := M.call hb29
        refine ⟨_, rfl, ?_⟩
        intro a A
        refine sda A λa A↦?_
        refine qa (hK23 _ _ (wrl (sdm A λa A↦?_)))
        refine sdo (v := .int .i64 (((i + 1 : Nat) : Int))) A (qb rfl rfl (fun w => (xj (vq (by omega) (by omega)) w).trans (by rw [show (((i : Nat) : Int) + 1 : Int) = ((i + 1 : Nat) : Int) from by omega]))) λa A↦?_
        refine sda A λa A↦?_
        refine qa ?_
        have hc9 := cnt_le zy t1.tr (dp) m (by omega)
        refine hK17 _ _ _ (by omega) ⟨i + 1, qbf zy (dp) m t1.tr, rfl, ⟨by omega, by rw [hin9, cntL_go hi1 (by omega) hD], by omega, by omega⟩, A.keep _ ⟨rfl, rfl, rfl, rfl, rfl, rfl, rfl, rfl, rfl, rfl, rfl, rfl, rfl, rfl, rfl, rfl, rfl, rfl, rfl, trivial⟩, M⟩
       ·
        have hb28' := ne_of_beq_false hb28
        refine sdo (v := .bool false) A (qb rfl rfl (fun w => (ql w).trans (by rw [hb28]))) λa A↦?_
        refine sdk (v := .bool false) A λa A↦?_
        refine qa (hK26 _ _ (wp_cond_false (A.ev rfl) ?_))
        refine wp_skip (hK25 _ _ ?_)
        obtain ⟨t1, b1, o1, hi1, hm1, hr1, hl1, hH1⟩ := kid hrd (i := i) (by omega)
        have hD : (if decide (d.k = 8) = true ∧ i = 1 then dp else dp + 1) = dp + 1 := if_neg (fun e => by omega)
        refine wrl (sdo (v := .pointer (some ⟨g2, 10, none⟩)) A (qe TrW_fld_30_5 rfl rfl) λa A↦?_)
        refine sdo A (qm M TrW_is1_28 rfl 0 rfl rfl) λa A↦?_
        refine sdm A λa A↦?_
        refine sdo (v := .pointer (some ⟨b1, o1 + i * 11, none⟩)) A (zx (k := i) Tryz.underlying28 (by kernel_rfl) rfl rfl rfl hl1 (by omega)) λa A↦?_
        refine sdo A (jt M hH1 TrW_isS_30 rfl rfl) λa A↦?_
        iterate 2 refine sdm A λa A↦?_
        refine qi A rfl rfl rfl (qf rfl rfl (fun w => by kernel_rfl)) (ih t1 hm1 (Dt.keep M.bel _ hr1) (by have := qcj (d := d) hm1; omega) (by omega) (by omega) (by omega) (by omega)) ?_
        rintro _ w32 ⟨rfl, hb31⟩
        replace M := M.call hb31
        refine ⟨_, rfl, ?_⟩
        intro a A
        refine sda A λa A↦?_
        refine qa (hK23 _ _ (wrl (sdm A λa A↦?_)))
        refine sdo (v := .int .i64 (((i + 1 : Nat) : Int))) A (qb rfl rfl (fun w => (xj (vq (by omega) (by omega)) w).trans (by rw [show (((i : Nat) : Int) + 1 : Int) = ((i + 1 : Nat) : Int) from by omega]))) λa A↦?_
        refine sda A λa A↦?_
        refine qa ?_
        have hc9 := cnt_le zy t1.tr (dp + 1) m (by omega)
        refine hK17 _ _ _ (by omega) ⟨i + 1, qbf zy (dp + 1) m t1.tr, rfl, ⟨by omega, by rw [hin9, cntL_go hi1 (by omega) hD], by omega, by omega⟩, A.keep _ ⟨rfl, rfl, rfl, rfl, rfl, rfl, rfl, rfl, rfl, rfl, rfl, rfl, rfl, rfl, rfl, rfl, rfl, rfl, rfl, trivial⟩, M⟩
      ·
       have hb27' := ne_of_beq_false hb27
       refine sdo (v := .bool false) A (qb rfl rfl (fun w => (ql w).trans (by rw [hb27]))) λa A↦?_
       refine sdm A λa A↦?_
       iterate 2 refine qk A rfl rfl rfl λa A↦?_
       refine sdk (v := .bool false) A λa A↦?_
       refine qa (hK26 _ _ (wp_cond_false (A.ev rfl) ?_))
       refine wp_skip (hK25 _ _ ?_)
       obtain ⟨t1, b1, o1, hi1, hm1, hr1, hl1, hH1⟩ := kid hrd (i := i) (by omega)
       have hD : (if decide (d.k = 8) = true ∧ i = 1 then dp else dp + 1) = dp + 1 := if_neg (fun e => hb27' (of_decide_eq_true e.1))
       refine wrl (sdo (v := .pointer (some ⟨g2, 10, none⟩)) A (qe TrW_fld_30_5 rfl rfl) λa A↦?_)
       refine sdo A (qm M TrW_is1_28 rfl 0 rfl rfl) λa A↦?_
       refine sdm A λa A↦?_
       refine sdo (v := .pointer (some ⟨b1, o1 + i * 11, none⟩)) A (zx (k := i) Tryz.underlying28 (by kernel_rfl) rfl rfl rfl hl1 (by omega)) λa A↦?_
       refine sdo A (jt M hH1 TrW_isS_30 rfl rfl) λa A↦?_
       iterate 2 refine sdm A λa A↦?_
       refine qi A rfl rfl rfl (qf rfl rfl (fun w => by kernel_rfl)) (ih t1 hm1 (Dt.keep M.bel _ hr1) (by have := qcj (d := d) hm1; omega) (by omega) (by omega) (by omega) (by omega)) ?_
       rintro _ w34 ⟨rfl, hb33⟩
       replace M := M.call hb33
       refine ⟨_, rfl, ?_⟩
       intro a A
       refine sda A λa A↦?_
       refine qa (hK23 _ _ (wrl (sdm A λa A↦?_)))
       refine sdo (v := .int .i64 (((i + 1 : Nat) : Int))) A (qb rfl rfl (fun w => (xj (vq (by omega) (by omega)) w).trans (by rw [show (((i : Nat) : Int) + 1 : Int) = ((i + 1 : Nat) : Int) from by omega]))) λa A↦?_
       refine sda A λa A↦?_
       refine qa ?_
       have hc9 := cnt_le zy t1.tr (dp + 1) m (by omega)
       refine hK17 _ _ _ (by omega) ⟨i + 1, qbf zy (dp + 1) m t1.tr, rfl, ⟨by omega, by rw [hin9, cntL_go hi1 (by omega) hD], by omega, by omega⟩, A.keep _ ⟨rfl, rfl, rfl, rfl, rfl, rfl, rfl, rfl, rfl, rfl, rfl, rfl, rfl, rfl, rfl, rfl, rfl, rfl, rfl, trivial⟩, M⟩
     ·
      have hb22' := of_decide_eq_false hb22
      refine sdo (v := .bool false) A (qb rfl rfl (fun w => (xi w).trans (by rw [hb22]))) λa A↦?_
      refine sdk (v := .bool false) A λa A↦?_
      refine qa (hK20 _ _ (wp_cond_false (A.ev rfl) ?_))
      refine wp_exit (hK14 _ _ (wsk fun K35 hK35 => wrl (sdm A λa A↦?_)))
      refine sda A λa A↦?_
      refine qa (hK35 _ _ (wp_ret (hret _ _ (en1 A rfl (qh rfl) ?_))))
      rw [cntT_mk (by omega) (by omega) (by rw [kj]; exact hb10), hin9, qia (by omega)]
      exact ⟨rfl, M.bel⟩
    ·
     have hb21' := of_decide_eq_false hb21
     refine sdo (v := .bool false) A (qb rfl rfl (fun w => (zk w).trans (by rw [hb21]))) λa A↦?_
     refine sdm A λa A↦?_
     iterate 2 refine qk A rfl rfl rfl λa A↦?_
     refine sdk (v := .bool false) A λa A↦?_
     refine qa (hK20 _ _ (wp_cond_false (A.ev rfl) ?_))
     refine wp_exit (hK14 _ _ (wsk fun K36 hK36 => wrl (sdm A λa A↦?_)))
     refine sda A λa A↦?_
     refine qa (hK36 _ _ (wp_ret (hret _ _ (en1 A rfl (qh rfl) ?_))))
     rw [cntT_mk (by omega) (by omega) (by rw [kj]; exact hb10), hin9, ug (by omega), qch]
     exact ⟨rfl, M.bel⟩
   ·
    refine qi A rfl rfl rfl (qf rfl rfl (fun w => by kernel_rfl)) (qjh (hok.1.below M.bel) (Nat.le_trans qed hbk) hlen hb10) ?_
    rintro _ w38 ⟨rfl, hb37⟩
    replace M := M.call hb37
    refine ⟨_, rfl, ?_⟩
    intro a A
    refine sdo (v := .bool true) A (zl rfl zu) λa A↦?_
    refine sdk (v := .bool true) A λa A↦?_
    refine qa (hK5 _ _ (wp_cond_true (A.ev rfl) ?_))
    refine wsk fun K39 hK39 => wrl (sda A λa A↦?_)
    refine qa (hK39 _ _ (wp_ret (hret _ _ (en1 A rfl (qh rfl) ?_))))
    rw [cntT_no (.inr (.inr (by rw [kj]; exact hb10)))]
    exact ⟨rfl, M.bel⟩
theorem rsound_mk {w : World} {d : Nd} {ts : List Dt} (hrd : (Dt.mk d ts).rd w) (hbk : (Dt.mk d ts).tr.bulk ≤ 2000000) : Calls Tryz.prog 11 #[.agg (d.cells ts.length).toArray] w fun e w' => e = .returned (.bool (jl zy (Dt.mk d ts).tr)) ∧ Below w.heap.size w w' := by
 have M : Mg w w ([]) := Mg.start w
 refine ze (l := [(0, .agg (d.cells ts.length).toArray)]) Tryz.func11 rfl Tryz.ntmps11 rfl rfl ?_
 intro Q hret hnorm hP a A
 refine wsk fun K1 hK1 => wrl (xe (vs := [.int .i64 d.k, .int .i64 d.n, .bool d.y.q.b1, .slice d.y.o1 d.y.q.t1.length d.y.c1, .slice d.y.o2 d.y.q.q1.length d.y.c2, .bool d.y.q.b2, .slice d.y.o3 d.y.q.t2.length d.y.c3, .slice d.y.o4 d.y.q.q2.length d.y.c4, .string d.s, .slice d.ro d.rl.length d.rc, .slice d.lo ts.length d.lc]) (t := 30) A M rfl rfl rfl pg (qx rfl rfl) (by decide) ?_)
 intro g2 w3 M a A
 refine sda A λa A↦?_
 refine qa (hK1 _ _ (wsk fun K4 hK4 => wrl (sdo A (zf M TrW_isS_30 rfl 0 rfl (cs := [.int .i64 d.k, .int .i64 d.n, .bool d.y.q.b1, .slice d.y.o1 d.y.q.t1.length d.y.c1, .slice d.y.o2 d.y.q.q1.length d.y.c2, .bool d.y.q.b2, .slice d.y.o3 d.y.q.t2.length d.y.c3, .slice d.y.o4 d.y.q.q2.length d.y.c4, .string d.s, .slice d.ro d.rl.length d.rc, .slice d.lo ts.length d.lc]) rfl rfl) λa A↦?_)))
 refine qi A rfl rfl rfl (qf rfl rfl (fun w => by kernel_rfl)) (count_all (Dt.mk d ts) (Dt.keep M.bel _ hrd) hbk (by omega) (by omega) (by omega) (by omega)) ?_
 rintro _ w5 ⟨rfl, hb9⟩
 replace M := M.call hb9
 refine ⟨_, rfl, ?_⟩
 intro a A
 refine sdo (v := .bool (decide (0 ≤ qbf zy 1 20000 (Dt.mk d ts).tr))) A (qb rfl rfl xi) λa A↦?_
 refine sda A λa A↦?_
 refine qa (hK4 _ _ (wp_ret (hret _ _ (en1 A rfl (qh rfl) ?_))))
 exact ⟨by rw [← count_sound], M.bel⟩
theorem rsound_any {w : World} {t : Dt} (hrd : t.rd w) (hbk : t.tr.bulk ≤ 2000000) : Calls Tryz.prog 11 #[.agg t.cells.toArray] w fun e w' => e = .returned (.bool (jl zy t.tr)) ∧ Below w.heap.size w w' := by
 obtain ⟨d, ts⟩ := t
 exact rsound_mk hrd hbk
end Go.Proofs.YtabjlejolmmeeaaGreatDoor.G
namespace Go.Proofs.YtabjlejolmmeeaaGreatDoor
open Go.RowKit
set_option linter.unusedVariables false
set_option linter.unusedSimpArgs false
set_option maxRecDepth 100000
theorem EqN_is1_22 : Is1 Tryz.prog 22 := ⟨⟨_, Tryz.underlying22, rfl⟩, by kernel_rfl⟩
theorem EqN_is1_4 : Is1 Tryz.prog 4 := ⟨⟨_, Tryz.underlying4, rfl⟩, by kernel_rfl⟩
theorem EqN_fld_24_0 : FieldAt Tryz.prog 24 0 0 := ⟨_, _, Tryz.underlying24, rfl, rfl, by kernel_rfl⟩
theorem EqN_fld_24_1 : FieldAt Tryz.prog 24 1 1 := ⟨_, _, Tryz.underlying24, rfl, rfl, by kernel_rfl⟩
theorem EqN_fld_24_2 : FieldAt Tryz.prog 24 2 2 := ⟨_, _, Tryz.underlying24, rfl, rfl, by kernel_rfl⟩
theorem EqN_fld_26_0 : FieldAt Tryz.prog 26 0 0 := ⟨_, _, Tryz.underlying26, rfl, rfl, by kernel_rfl⟩
theorem EqN_fld_26_1 : FieldAt Tryz.prog 26 1 3 := ⟨_, _, Tryz.underlying26, rfl, rfl, by kernel_rfl⟩
theorem EqN_isS_24 : IsS Tryz.prog 24 3 := ⟨⟨_, Tryz.underlying24⟩, by kernel_rfl⟩
theorem EqN_isS_26 : IsS Tryz.prog 26 6 := ⟨⟨_, Tryz.underlying26⟩, by kernel_rfl⟩
theorem qjj (u : Rat) : Q6.rat u 0 = ⟨rb u.num, words u.num.natAbs, words u.den, false, [], [1]⟩ := by
 unfold Q6.rat
 have h0 : words (0 : Rat).num.natAbs = [] := by show words 0 = []; exact words_zero
 have h1 : words (0 : Rat).den = [1] := by show words 1 = [1]; exact yi
 rw [h0, h1]
 rfl
theorem real_cmp {u x : Rat} (hu : xn u) (hx : xn x) : cmpQ ⟨rb u.num, words u.num.natAbs, words u.den, false, [], [1]⟩ ⟨rb x.num, words x.num.natAbs, words x.den, false, [], [1]⟩ = (vt u x, 0) := by
 rw [← qjj, ← qjj, cmpQ_rat hu hx]
theorem fit_zero : xn 0 := by
 refine ⟨?_, ?_⟩
 ·
  show (words 0).length ≤ 512; rw [words_zero]; decide
 ·
  show (words 1).length ≤ 512; rw [yi]; decide
theorem real_len {u : Rat} (hu : xn u) : LenQ ⟨rb u.num, words u.num.natAbs, words u.den, false, [], [1]⟩ := by rw [← qjj]; exact qie hu fit_zero
theorem sameF_rat {u x : Rat} (h : xv (rb u.num) (words u.num.natAbs) (words u.den) (rb x.num) (words x.num.natAbs) (words x.den) = true) : vt u x = 0 := by
 unfold xv at h
 simp only [Bool.and_eq_true, beq_iff_eq, decide_eq_true_eq] at h
 rw [rat_ext h.1 h.2.1 h.2.2]
 unfold vt
 rw [if_neg Rat.lt_irrefl, if_pos rfl]
theorem qga {w : World} {b b' : Bool} {t q t' q' : List Nat} {a1 a2 : Option Addr} {ac1 ac2 : Nat} (ha1 : Sc w a1 ac1 t) (ha2 : Sc w a2 ac2 q) {u1 u2 : Option Addr} {uc1 uc2 : Nat} (hu1 : Sc w u1 uc1 t') (hu2 : Sc w u2 uc2 q') (l1 : t.length ≤ 9223372036854775807) (l2 : q.length ≤ 9223372036854775807) (l3 : t'.length ≤ 9223372036854775807) (l4 : q'.length ≤ 9223372036854775807) {r : Bool} (hr : xv b t q b' t' q' = r) :
  Calls Tryz.prog 53 #[.agg #[.bool b, .slice a1 t.length ac1, .slice a2 q.length ac2], .agg #[.bool b', .slice u1 t'.length uc1, .slice u2 q'.length uc2]] w fun e w' => e = .returned (.bool r) ∧ Below w.heap.size w w' := by
 have V : St w w [] [(u2, q'), (u1, t'), (a2, q), (a1, t)] [] := ((((St.start w).addR ha1.rd).addR ha2.rd).addR hu1.rd).addR hu2.rd
 refine ze (l := [(0, .agg #[.bool b, .slice a1 t.length ac1, .slice a2 q.length ac2]), (1, .agg #[.bool b', .slice u1 t'.length uc1, .slice u2 q'.length uc2])]) Tryz.func53 rfl Tryz.ntmps53 rfl rfl ?_
 intro Q hret hnorm hP a A
 refine wsk fun K1 hK1 => wrl (zh A V rfl rfl rfl pg (qx rfl rfl) rfl ?_)
 intro g2 w3 V a A
 refine zh A V rfl rfl rfl pg (qx rfl rfl) rfl ?_
 intro g4 w5 V a A
 refine sda A λa A↦?_
 refine qa (hK1 _ _ (wsk fun K6 hK6 => wrl (sdo (v := .pointer (some ⟨g2, 0, none⟩)) A (qe EqN_fld_24_0 rfl rfl) λa A↦?_)))
 refine sdo A (qj V EqN_is1_4 rfl 1 rfl rfl) λa A↦?_
 refine sdo (v := .pointer (some ⟨g4, 0, none⟩)) A (qe EqN_fld_24_0 rfl rfl) λa A↦?_
 refine sdo A (qj V EqN_is1_4 rfl 0 rfl rfl) λa A↦?_
 rcases tf ((b == b')) with hb7 | hb7
 ·
  have hb7' := eq_of_beq hb7
  refine sdo (v := .bool true) A (qb rfl rfl (fun w => ((xu Tryz.underlying4) w).trans (by rw [hb7]))) λa A↦?_
  refine sdm A λa A↦?_
  refine sdo (v := .pointer (some ⟨g2, 1, none⟩)) A (qe EqN_fld_24_1 rfl rfl) λa A↦?_
  refine sdo A (qj V EqN_is1_22 rfl 1 rfl rfl) λa A↦?_
  refine sdo (v := .pointer (some ⟨g4, 1, none⟩)) A (qe EqN_fld_24_1 rfl rfl) λa A↦?_
  refine sdo A (qj V EqN_is1_22 rfl 0 rfl rfl) λa A↦?_
  rcases tf (decide (t = t')) with hb8 | hb8
  ·
   have hb8' := of_decide_eq_true hb8
   refine qi A rfl rfl rfl (qf  rfl rfl (fun w => by kernel_rfl)) (um _ _ (V.rd 3 rfl) (V.rd 1 rfl) l1 l3 hb8) ?_
   rintro _ w10 ⟨rfl, hb9⟩
   replace V := V.call hb9
   refine ⟨_, rfl, ?_⟩
   intro a A
   refine sdk (v := .bool true) A λa A↦?_
   refine sdm A λa A↦?_
   refine sdo (v := .pointer (some ⟨g2, 2, none⟩)) A (qe EqN_fld_24_2 rfl rfl) λa A↦?_
   refine sdo A (qj V EqN_is1_22 rfl 1 rfl rfl) λa A↦?_
   refine sdo (v := .pointer (some ⟨g4, 2, none⟩)) A (qe EqN_fld_24_2 rfl rfl) λa A↦?_
   refine sdo A (qj V EqN_is1_22 rfl 0 rfl rfl) λa A↦?_
   rcases tf (decide (q = q')) with hb11 | hb11
   ·
    have hb11' := of_decide_eq_true hb11
    refine qi A rfl rfl rfl (qf  rfl rfl (fun w => by kernel_rfl)) (um _ _ (V.rd 2 rfl) (V.rd 0 rfl) l2 l4 hb11) ?_
    rintro _ w13 ⟨rfl, hb12⟩
    replace V := V.call hb12
    refine ⟨_, rfl, ?_⟩
    intro a A
    refine sdk (v := .bool true) A λa A↦?_
    refine sda A λa A↦?_
    refine qa (hK6 _ _ (wp_ret (hret _ _ (en1 A rfl (qh rfl) ?_))))
    subst hr
    exact ⟨by unfold xv; rw [hb7, hb8, hb11]; try rfl, V.bel⟩
   ·
    have hb11' := of_decide_eq_false hb11
    refine qi A rfl rfl rfl (qf  rfl rfl (fun w => by kernel_rfl)) (um _ _ (V.rd 2 rfl) (V.rd 0 rfl) l2 l4 hb11) ?_
    rintro _ w15 ⟨rfl, hb14⟩
    replace V := V.call hb14
    refine ⟨_, rfl, ?_⟩
    intro a A
    refine sdk (v := .bool false) A λa A↦?_
    refine sda A λa A↦?_
    refine qa (hK6 _ _ (wp_ret (hret _ _ (en1 A rfl (qh rfl) ?_))))
    subst hr
    exact ⟨by unfold xv; rw [hb7, hb8, hb11]; try rfl, V.bel⟩
  ·
   have hb8' := of_decide_eq_false hb8
   refine qi A rfl rfl rfl (qf  rfl rfl (fun w => by kernel_rfl)) (um _ _ (V.rd 3 rfl) (V.rd 1 rfl) l1 l3 hb8) ?_
   rintro _ w17 ⟨rfl, hb16⟩
   replace V := V.call hb16
   refine ⟨_, rfl, ?_⟩
   intro a A
   refine sdk (v := .bool false) A λa A↦?_
   refine sdm A λa A↦?_
   iterate 5 refine qk A rfl rfl rfl λa A↦?_
   refine sdk (v := .bool false) A λa A↦?_
   refine sda A λa A↦?_
   refine qa (hK6 _ _ (wp_ret (hret _ _ (en1 A rfl (qh rfl) ?_))))
   subst hr
   exact ⟨by unfold xv; rw [hb7, hb8]; try rfl, V.bel⟩
 ·
  have hb7' := ne_of_beq_false hb7
  refine sdo (v := .bool false) A (qb rfl rfl (fun w => ((xu Tryz.underlying4) w).trans (by rw [hb7]))) λa A↦?_
  refine sdm A λa A↦?_
  iterate 5 refine qk A rfl rfl rfl λa A↦?_
  refine sdk (v := .bool false) A λa A↦?_
  refine sdm A λa A↦?_
  iterate 5 refine qk A rfl rfl rfl λa A↦?_
  refine sdk (v := .bool false) A λa A↦?_
  refine sda A λa A↦?_
  refine qa (hK6 _ _ (wp_ret (hret _ _ (en1 A rfl (qh rfl) ?_))))
  subst hr
  exact ⟨by unfold xv; rw [hb7]; try rfl, V.bel⟩
theorem realN_any {w : World} {b : Bool} {t q : List Nat} {a1 a2 : Option Addr} {ac1 ac2 : Nat} (ha1 : Sc w a1 ac1 t) (ha2 : Sc w a2 ac2 q) : Calls Tryz.prog 55 #[.agg #[.bool b, .slice a1 t.length ac1, .slice a2 q.length ac2]] w (AnsV w ⟨b, t, q, false, [], [1]⟩) := by
 have V : St w w [] [(a2, q), (a1, t)] [] := ((St.start w).addR ha1.rd).addR ha2.rd
 refine ze (l := [(0, .agg #[.bool b, .slice a1 t.length ac1, .slice a2 q.length ac2])]) Tryz.func55 rfl Tryz.ntmps55 rfl rfl ?_
 intro Q hret hnorm hP a A
 refine wsk fun K1 hK1 => wrl (zh A V rfl rfl rfl pg (qx rfl rfl) rfl ?_)
 intro g2 w3 V a A
 refine zh (vs := [.bool false, .slice none 0 0, .slice none 0 0, .bool false, .slice none 0 0, .slice none 0 0]) (t := 26) A V rfl rfl rfl pg (qy (z := .agg #[.bool false, .slice none 0 0, .slice none 0 0, .bool false, .slice none 0 0, .slice none 0 0]) (by kernel_rfl) rfl) rfl ?_
 intro g4 w5 V a A
 refine qa (hK1 _ _ (wsk fun K6 hK6 => ja (S := fun w1 => St w w1 [(g2, [.bool b, .slice a1 t.length ac1, .slice a2 q.length ac2])] [(a2, q), (a1, t)] []) (by kernel_rfl) ?_))
 replace V := V.drew
 refine qg A 0 rfl rfl rfl rfl hP (V.partD (.cons _ (.cons_cons _ .slnil)) 0 rfl (.refl _)) (fun w1 V => zj V EqN_isS_24 rfl 0 rfl (cs := [.bool b, .slice a1 t.length ac1, .slice a2 q.length ac2]) rfl rfl) λa A↦?_
 refine qn (by kernel_rfl) (qw A 1 rfl rfl rfl rfl (qf  rfl rfl (fun w => by kernel_rfl)) ((show Calls Tryz.prog 74 #[.int .i64 (0)] _ (AnsV _ (Q6.whole false 0)) from intP_any (k := 0) (by decide))) ?_)
 rintro _ w10 ⟨p7_1, p7_c1, p7_2, p7_c2, p7_3, p7_c3, p7_4, p7_c4, rfl, hn8, hb9⟩
 replace V := V.call hb9
 replace V := V.addR hn8.s1.rd
 replace V := V.addR hn8.s2.rd
 replace V := V.addR hn8.s3.rd
 replace V := V.addR hn8.s4.rd
 refine ⟨_, rfl, (V.partD (.cons _ (.cons_cons _ .slnil)) 4 rfl (.refl _)), ?_⟩
 intro a A
 refine qg (v := .agg #[.bool false, .slice p7_3 0 p7_c3, .slice p7_4 1 p7_c4]) A 2 rfl rfl rfl rfl hP (V.partD (.cons _ (.cons_cons _ .slnil)) 4 rfl (.refl _)) (fun w1 V => qfb rfl (fun w => by kernel_rfl)) λa A↦?_
 refine qg (v := .agg #[.bool b, .slice a1 t.length ac1, .slice a2 q.length ac2, .bool false, .slice p7_3 0 p7_c3, .slice p7_4 1 p7_c4]) A 3 rfl rfl rfl rfl hP (V.partD (.cons _ (.cons_cons _ .slnil)) 4 rfl (.refl _)) (fun w1 V => zb rfl (fun w => by kernel_rfl)) λa A↦?_
 refine qn (by kernel_rfl) (zm (us := [.bool b, .slice a1 t.length ac1, .slice a2 q.length ac2, .bool false, .slice p7_3 0 p7_c3, .slice p7_4 1 p7_c4]) A V 4 rfl rfl rfl (qs rfl rfl rfl (by kernel_rfl) V 0 rfl rfl rfl) 0 rfl rfl rfl rfl ?_)
 intro w11 V
 refine ⟨(V.partD (.cons _ (.cons_cons _ .slnil)) 4 rfl (.refl _)), ?_⟩
 refine zi (by kernel_rfl) ?_
 refine hK6 _ _ (wp_ret (hret _ _ (en1 A rfl (jj V EqN_isS_26 rfl 0 rfl (cs := [.bool b, .slice a1 t.length ac1, .slice a2 q.length ac2, .bool false, .slice p7_3 0 p7_c3, .slice p7_4 1 p7_c4]) rfl rfl) ?_)))
 exact ⟨a1, ac1, a2, ac2, p7_3, p7_c3, p7_4, p7_c4, rfl, ⟨⟨(V.rd 5 rfl), ha1.nil, ha1.cap⟩, ⟨(V.rd 4 rfl), ha2.nil, ha2.cap⟩, ⟨(V.rd 1 rfl), hn8.s3.nil, hn8.s3.cap⟩, ⟨(V.rd 0 rfl), hn8.s4.nil, hn8.s4.cap⟩⟩, V.bel⟩
theorem ordFr_any {w : World} {u x : Rat} (hu : xn u) (hx : xn x) {a1 a2 : Option Addr} {ac1 ac2 : Nat} (ha1 : Sc w a1 ac1 (words u.num.natAbs)) (ha2 : Sc w a2 ac2 (words u.den)) {e1 e2 : Option Addr} {ec1 ec2 : Nat} (he1 : Sc w e1 ec1 (words x.num.natAbs)) (he2 : Sc w e2 ec2 (words x.den)) : Calls Tryz.prog 39 #[.agg #[.bool ((rb u.num)), .slice a1 (words u.num.natAbs).length ac1, .slice a2 (words u.den).length ac2], .agg #[.bool ((rb x.num)), .slice e1 (words x.num.natAbs).length ec1, .slice e2 (words x.den).length ec2]] w fun e w' => e = .returned (.int .i64 (vt u x)) ∧ Below w.heap.size w w' := by
 have V : St w w [] [(e2, words x.den), (e1, words x.num.natAbs), (a2, words u.den), (a1, words u.num.natAbs)] [] := ((((St.start w).addR ha1.rd).addR ha2.rd).addR he1.rd).addR he2.rd
 refine ze (l := [(0, .agg #[.bool ((rb u.num)), .slice a1 ((words u.num.natAbs).length) ac1, .slice a2 ((words u.den).length) ac2]), (1, .agg #[.bool ((rb x.num)), .slice e1 ((words x.num.natAbs).length) ec1, .slice e2 ((words x.den).length) ec2])]) Tryz.func39 rfl Tryz.ntmps39 rfl rfl ?_
 intro Q hret hnorm hP a A
 refine wsk fun K1 hK1 => wrl (zh A V rfl rfl rfl pg (qx rfl rfl) rfl ?_)
 intro g2 w3 V a A
 refine zh A V rfl rfl rfl pg (qx rfl rfl) rfl ?_
 intro g4 w5 V a A
 refine sda A λa A↦?_
 refine qa (hK1 _ _ (wsk fun K6 hK6 => wsk fun K7 hK7 => wrl (sdo A (zj V EqN_isS_24 rfl 1 rfl (cs := [.bool ((rb u.num)), .slice a1 ((words u.num.natAbs).length) ac1, .slice a2 ((words u.den).length) ac2]) rfl rfl) λa A↦?_)))
 refine sdo A (zj V EqN_isS_24 rfl 0 rfl (cs := [.bool ((rb x.num)), .slice e1 ((words x.num.natAbs).length) ec1, .slice e2 ((words x.den).length) ec2]) rfl rfl) λa A↦?_
 rcases tf (xv (rb u.num) (words u.num.natAbs) (words u.den) (rb x.num) (words x.num.natAbs) (words x.den)) with hb8 | hb8
 ·
  refine qi A rfl rfl rfl (qf  rfl rfl (fun w => by kernel_rfl)) (qga ⟨(V.rd 3 rfl), ha1.nil, ha1.cap⟩ ⟨(V.rd 2 rfl), ha2.nil, ha2.cap⟩ ⟨(V.rd 1 rfl), he1.nil, he1.cap⟩ ⟨(V.rd 0 rfl), he2.nil, he2.cap⟩ (Nat.le_trans hu.1 (by decide)) (Nat.le_trans hu.2 (by decide)) (Nat.le_trans hx.1 (by decide)) (Nat.le_trans hx.2 (by decide)) hb8) ?_
  rintro _ w10 ⟨rfl, hb9⟩
  replace V := V.call hb9
  refine ⟨_, rfl, ?_⟩
  intro a A
  refine qa (hK7 _ _ (wp_cond_true (A.ev rfl) ?_))
  refine wsk fun K11 hK11 => wrl (sda A λa A↦?_)
  refine qa (hK11 _ _ (wp_ret (hret _ _ (en1 A rfl (qh rfl) ?_))))
  exact ⟨by rw [sameF_rat hb8], V.bel⟩
 ·
  refine qi A rfl rfl rfl (qf  rfl rfl (fun w => by kernel_rfl)) (qga ⟨(V.rd 3 rfl), ha1.nil, ha1.cap⟩ ⟨(V.rd 2 rfl), ha2.nil, ha2.cap⟩ ⟨(V.rd 1 rfl), he1.nil, he1.cap⟩ ⟨(V.rd 0 rfl), he2.nil, he2.cap⟩ (Nat.le_trans hu.1 (by decide)) (Nat.le_trans hu.2 (by decide)) (Nat.le_trans hx.1 (by decide)) (Nat.le_trans hx.2 (by decide)) hb8) ?_
  rintro _ w13 ⟨rfl, hb12⟩
  replace V := V.call hb12
  refine ⟨_, rfl, ?_⟩
  intro a A
  refine qa (hK7 _ _ (wp_cond_false (A.ev rfl) ?_))
  refine wp_skip (hK6 _ _ (wsk fun K14 hK14 => ja (S := fun w1 => St w w1 [(g4, [.bool ((rb x.num)), .slice e1 ((words x.num.natAbs).length) ec1, .slice e2 ((words x.den).length) ec2]), (g2, [.bool ((rb u.num)), .slice a1 ((words u.num.natAbs).length) ac1, .slice a2 ((words u.den).length) ac2])] [(e2, words x.den), (e1, words x.num.natAbs), (a2, words u.den), (a1, words u.num.natAbs)] []) (by kernel_rfl) ?_))
  replace V := V.drew
  refine qg A 0 rfl rfl rfl rfl hP V (fun w1 V => zj V EqN_isS_24 rfl 1 rfl (cs := [.bool ((rb u.num)), .slice a1 ((words u.num.natAbs).length) ac1, .slice a2 ((words u.den).length) ac2]) rfl rfl) λa A↦?_
  refine qg A 2 rfl rfl rfl rfl hP V (fun w1 V => zj V EqN_isS_24 rfl 0 rfl (cs := [.bool ((rb x.num)), .slice e1 ((words x.num.natAbs).length) ec1, .slice e2 ((words x.den).length) ec2]) rfl rfl) λa A↦?_
  refine qn (by kernel_rfl) (qw A 1 rfl rfl rfl rfl (qf  rfl rfl (fun w => by kernel_rfl)) (realN_any ⟨(V.rd 3 rfl), ha1.nil, ha1.cap⟩ ⟨(V.rd 2 rfl), ha2.nil, ha2.cap⟩) ?_)
  rintro _ w18 ⟨p15_1, p15_c1, p15_2, p15_c2, p15_3, p15_c3, p15_4, p15_c4, rfl, hn16, hb17⟩
  replace V := V.call hb17
  replace V := V.addR hn16.s1.rd
  replace V := V.addR hn16.s2.rd
  replace V := V.addR hn16.s3.rd
  replace V := V.addR hn16.s4.rd
  refine ⟨_, rfl, (V.partD (.refl _) 4 rfl (.refl _)), ?_⟩
  intro a A
  refine qn (by kernel_rfl) (qw A 3 rfl rfl rfl rfl (qf  rfl rfl (fun w => by kernel_rfl)) (realN_any ⟨(V.rd 5 rfl), he1.nil, he1.cap⟩ ⟨(V.rd 4 rfl), he2.nil, he2.cap⟩) ?_)
  rintro _ w22 ⟨p19_1, p19_c1, p19_2, p19_c2, p19_3, p19_c3, p19_4, p19_c4, rfl, hn20, hb21⟩
  replace V := V.call hb21
  replace V := V.addR hn20.s1.rd
  replace V := V.addR hn20.s2.rd
  replace V := V.addR hn20.s3.rd
  replace V := V.addR hn20.s4.rd
  refine ⟨_, rfl, (V.partD (.refl _) 8 rfl (.refl _)), ?_⟩
  intro a A
  refine qn (by kernel_rfl) (qw A 4 rfl rfl rfl rfl (qf  rfl rfl (fun w => by kernel_rfl)) (((real_cmp hu hx) ▸ cmpQ_any (show Nm _ ⟨rb u.num, words u.num.natAbs, words u.den, false, [], [1]⟩ p15_1 p15_c1 p15_2 p15_c2 p15_3 p15_c3 p15_4 p15_c4 from ⟨⟨(V.rd 7 rfl), hn16.s1.nil, hn16.s1.cap⟩, ⟨(V.rd 6 rfl), hn16.s2.nil, hn16.s2.cap⟩, ⟨(V.rd 5 rfl), hn16.s3.nil, hn16.s3.cap⟩, ⟨(V.rd 4 rfl), hn16.s4.nil, hn16.s4.cap⟩⟩) (real_len hu) (show Nm _ ⟨rb x.num, words x.num.natAbs, words x.den, false, [], [1]⟩ p19_1 p19_c1 p19_2 p19_c2 p19_3 p19_c3 p19_4 p19_c4 from ⟨⟨(V.rd 3 rfl), hn20.s1.nil, hn20.s1.cap⟩, ⟨(V.rd 2 rfl), hn20.s2.nil, hn20.s2.cap⟩, ⟨(V.rd 1 rfl), hn20.s3.nil, hn20.s3.cap⟩, ⟨(V.rd 0 rfl), hn20.s4.nil, hn20.s4.cap⟩⟩) (real_len hx))) ?_)
  rintro _ w24 ⟨rfl, hb23⟩
  replace V := V.call hb23
  refine ⟨_, rfl, (V.partD (.refl _) 8 rfl (.refl _)), ?_⟩
  intro a A
  refine qg A 5 rfl rfl rfl rfl hP (V.partD (.refl _) 8 rfl (.refl _)) (fun w1 V => za rfl) λa A↦?_
  refine qg (v := .int .i64 (vt u x)) A 6 rfl rfl rfl rfl hP (V.partD (.refl _) 8 rfl (.refl _)) (fun w1 V => jp (vs := [.int .i64 (vt u x), .int .i64 0]) rfl rfl) λa A↦?_
  refine qg (v := .int .i64 0) A 7 rfl rfl rfl rfl hP (V.partD (.refl _) 8 rfl (.refl _)) (fun w1 V => jp (vs := [.int .i64 (vt u x), .int .i64 0]) rfl rfl) λa A↦?_
  refine qg A 8 rfl rfl rfl rfl hP (V.partD (.refl _) 8 rfl (.refl _)) (fun w1 V => zp rfl) λa A↦?_
  refine qg A 9 rfl rfl rfl rfl hP (V.partD (.refl _) 8 rfl (.refl _)) (fun w1 V => zp rfl) λa A↦?_
  refine zi (by kernel_rfl) ?_
  refine hK14 _ _ (wsk fun K25 hK25 => wrl (sdm A λa A↦?_))
  refine sda A λa A↦?_
  refine qa (hK25 _ _ (wp_ret (hret _ _ (en1 A rfl (qh rfl) ?_))))
  exact ⟨rfl, V.bel⟩
theorem ordNum_any {w : World} {u v x y : Rat} {a1 a2 a3 a4 : Option Addr} {ac1 ac2 ac3 ac4 : Nat} (ha : Nm w (Q6.rat u v) a1 ac1 a2 ac2 a3 ac3 a4 ac4) {u1 u2 u3 u4 : Option Addr} {uc1 uc2 uc3 uc4 : Nat} (hb : Nm w (Q6.rat x y) u1 uc1 u2 uc2 u3 uc3 u4 uc4) (hu : xn u) (hv : xn v) (hx : xn x) (hy : xn y) : Calls Tryz.prog 21 #[qbe (Q6.rat u v) a1 ac1 a2 ac2 a3 ac3 a4 ac4, qbe (Q6.rat x y) u1 uc1 u2 uc2 u3 uc3 u4 uc4] w fun e w' => e = .returned (.int .i64 (if vt u x = 0 then vt v y else vt u x)) ∧ Below w.heap.size w w' := by
 have V : St w w [] [(u4, words y.den), (u3, words y.num.natAbs), (u2, words x.den), (u1, words x.num.natAbs), (a4, words v.den), (a3, words v.num.natAbs), (a2, words u.den), (a1, words u.num.natAbs)] [] := ((((((((St.start w).addR ha.s1.rd).addR ha.s2.rd).addR ha.s3.rd).addR ha.s4.rd).addR hb.s1.rd).addR hb.s2.rd).addR hb.s3.rd).addR hb.s4.rd
 refine ze (l := [(0, .agg #[.bool (rb u.num), .slice a1 ((words u.num.natAbs).length) ac1, .slice a2 ((words u.den).length) ac2, .bool (rb v.num), .slice a3 ((words v.num.natAbs).length) ac3, .slice a4 ((words v.den).length) ac4]), (1, .agg #[.bool (rb x.num), .slice u1 ((words x.num.natAbs).length) uc1, .slice u2 ((words x.den).length) uc2, .bool (rb y.num), .slice u3 ((words y.num.natAbs).length) uc3, .slice u4 ((words y.den).length) uc4])]) Tryz.func21 rfl Tryz.ntmps21 rfl rfl ?_
 intro Q hret hnorm hP a A
 refine wsk fun K1 hK1 => wrl (zh A V rfl rfl rfl pg (qx rfl rfl) rfl ?_)
 intro g2 w3 V a A
 refine zh A V rfl rfl rfl pg (qx rfl rfl) rfl ?_
 intro g4 w5 V a A
 refine sda A λa A↦?_
 refine qa (hK1 _ _ (wsk fun K6 hK6 => wsk fun K7 hK7 => wrl (sdo (v := .pointer (some ⟨g2, 0, none⟩)) A (qe EqN_fld_26_0 rfl rfl) λa A↦?_)))
 refine sdo A (zj V EqN_isS_24 rfl 1 rfl (cs := [.bool (rb u.num), .slice a1 ((words u.num.natAbs).length) ac1, .slice a2 ((words u.den).length) ac2]) rfl rfl) λa A↦?_
 refine sdo (v := .pointer (some ⟨g4, 0, none⟩)) A (qe EqN_fld_26_0 rfl rfl) λa A↦?_
 refine sdo A (zj V EqN_isS_24 rfl 0 rfl (cs := [.bool (rb x.num), .slice u1 ((words x.num.natAbs).length) uc1, .slice u2 ((words x.den).length) uc2]) rfl rfl) λa A↦?_
 refine qi A rfl rfl rfl (qf  rfl rfl (fun w => by kernel_rfl)) (ordFr_any hu hx ⟨(V.rd 7 rfl), ha.s1.nil, ha.s1.cap⟩ ⟨(V.rd 6 rfl), ha.s2.nil, ha.s2.cap⟩ ⟨(V.rd 3 rfl), hb.s1.nil, hb.s1.cap⟩ ⟨(V.rd 2 rfl), hb.s2.nil, hb.s2.cap⟩) ?_
 rintro _ w9 ⟨rfl, hb8⟩
 replace V := V.call hb8
 refine ⟨_, rfl, ?_⟩
 intro a A
 refine sda A λa A↦?_
 refine qa (hK7 _ _ (wsk fun K10 hK10 => wrl (sdm A λa A↦?_)))
 rcases tf ((vt u x != 0)) with hb11 | hb11
 ·
  have hb11' := bne_iff_ne.1 hb11
  refine sdo (v := .bool true) A (qb rfl rfl (fun w => (qz w).trans (by rw [hb11]))) λa A↦?_
  refine qa (hK10 _ _ (wp_cond_true (A.ev rfl) ?_))
  refine wsk fun K12 hK12 => wrl (sdm A λa A↦?_)
  refine sda A λa A↦?_
  refine qa (hK12 _ _ (wp_ret (hret _ _ (en1 A rfl (qh rfl) ?_))))
  exact ⟨by rw [if_neg hb11'], V.bel⟩
 ·
  have hb11' := bne_eq_false_iff_eq.1 hb11
  refine sdo (v := .bool false) A (qb rfl rfl (fun w => (qz w).trans (by rw [hb11]))) λa A↦?_
  refine qa (hK10 _ _ (wp_cond_false (A.ev rfl) ?_))
  refine wp_skip (hK6 _ _ (wsk fun K13 hK13 => wrl (sdo (v := .pointer (some ⟨g2, 3, none⟩)) A (qe EqN_fld_26_1 rfl rfl) λa A↦?_)))
  refine sdo A (zj V EqN_isS_24 rfl 1 rfl (cs := [.bool (rb v.num), .slice a3 ((words v.num.natAbs).length) ac3, .slice a4 ((words v.den).length) ac4]) rfl rfl) λa A↦?_
  refine sdo (v := .pointer (some ⟨g4, 3, none⟩)) A (qe EqN_fld_26_1 rfl rfl) λa A↦?_
  refine sdo A (zj V EqN_isS_24 rfl 0 rfl (cs := [.bool (rb y.num), .slice u3 ((words y.num.natAbs).length) uc3, .slice u4 ((words y.den).length) uc4]) rfl rfl) λa A↦?_
  refine qi A rfl rfl rfl (qf  rfl rfl (fun w => by kernel_rfl)) (ordFr_any hv hy ⟨(V.rd 5 rfl), ha.s3.nil, ha.s3.cap⟩ ⟨(V.rd 4 rfl), ha.s4.nil, ha.s4.cap⟩ ⟨(V.rd 1 rfl), hb.s3.nil, hb.s3.cap⟩ ⟨(V.rd 0 rfl), hb.s4.nil, hb.s4.cap⟩) ?_
  rintro _ w15 ⟨rfl, hb14⟩
  replace V := V.call hb14
  refine ⟨_, rfl, ?_⟩
  intro a A
  refine sda A λa A↦?_
  refine qa (hK13 _ _ (wp_ret (hret _ _ (en1 A rfl (qh rfl) ?_))))
  exact ⟨by rw [if_pos hb11'], V.bel⟩
end Go.Proofs.YtabjlejolmmeeaaGreatDoor
namespace Go.Proofs.YtabjlejolmmeeaaGreatDoor.G
open Go.RowKit
set_option linter.unusedVariables false
set_option linter.unusedSimpArgs false
set_option maxRecDepth 100000
theorem nan_any {w : World} {n : Int} : Calls Tryz.prog 38 #[.int .i64 n] w fun e w' => e = .returned (.bool false) ∧ Below w.heap.size w w' := by
 have M : Mg w w ([]) := Mg.start w
 refine ze (l := [(0, .int .i64 n)]) Tryz.func38 rfl Tryz.ntmps38 rfl rfl ?_
 intro Q hret hnorm hP a A
 refine wsk fun K1 hK1 => wrl (sda A λa A↦?_)
 refine qa (hK1 _ _ (wsk fun K2 hK2 => wrl ?_))
 iterate 2 refine sdm A λa A↦?_
 refine sdo (v := .bool false) A (qb rfl rfl (fun w => (qz w).trans (by rw [show ((n != n)) = false from (bne_self_eq_false n)]))) λa A↦?_
 refine sda A λa A↦?_
 refine qa (hK2 _ _ (wp_ret (hret _ _ (en1 A rfl (qh rfl) ?_))))
 exact ⟨rfl, M.bel⟩
theorem uz {w : World} {m n : Int} : Calls Tryz.prog 20 #[.int .i64 m, .int .i64 n] w fun e w' => e = .returned (.int .i64 (ju m n)) ∧ Below w.heap.size w w' := by
 have M : Mg w w ([]) := Mg.start w
 refine ze (l := [(0, .int .i64 m), (1, .int .i64 n)]) Tryz.func20 rfl Tryz.ntmps20 rfl rfl ?_
 intro Q hret hnorm hP a A
 refine wsk fun K1 hK1 => wrl (sda A λa A↦?_)
 refine qa (hK1 _ _ (wsk fun K2 hK2 => wrl (sdm A λa A↦?_)))
 refine qi A rfl rfl rfl (qf rfl rfl (fun w => by kernel_rfl)) (nan_any) ?_
 rintro _ w4 ⟨rfl, hb3⟩
 replace M := M.call hb3
 refine ⟨_, rfl, ?_⟩
 intro a A
 refine sda A λa A↦?_
 refine qa (hK2 _ _ (wsk fun K5 hK5 => wrl (sdm A λa A↦?_)))
 refine qi A rfl rfl rfl (qf rfl rfl (fun w => by kernel_rfl)) (nan_any) ?_
 rintro _ w7 ⟨rfl, hb6⟩
 replace M := M.call hb6
 refine ⟨_, rfl, ?_⟩
 intro a A
 refine sda A λa A↦?_
 refine qa (hK5 _ _ (wsk fun K8 hK8 => wsk fun K9 hK9 => wrl (sdm A λa A↦?_)))
 refine qa (hK9 _ _ (wp_cond_false (A.ev rfl) ?_))
 refine wp_skip (hK8 _ _ (wsk fun K10 hK10 => wsk fun K11 hK11 => wrl (sdm A λa A↦?_)))
 refine qa (hK11 _ _ (wp_cond_false (A.ev rfl) ?_))
 refine wp_skip (hK10 _ _ (wsk fun K12 hK12 => wsk fun K13 hK13 => wrl ?_))
 iterate 2 refine sdm A λa A↦?_
 rcases tf (decide (m < n)) with hb14 | hb14
 ·
  have hb14' := of_decide_eq_true hb14
  refine sdo (v := .bool true) A (qb rfl rfl (fun w => (zk w).trans (by rw [hb14]))) λa A↦?_
  refine qa (hK13 _ _ (wp_cond_true (A.ev rfl) ?_))
  refine wsk fun K15 hK15 => wrl (sda A λa A↦?_)
  refine qa (hK15 _ _ (wp_ret (hret _ _ (en1 A rfl (qh rfl) ?_))))
  exact ⟨by rw [show ju m n = -1 from by unfold ju; (repeat' split) <;> omega], M.bel⟩
 ·
  have hb14' := of_decide_eq_false hb14
  refine sdo (v := .bool false) A (qb rfl rfl (fun w => (zk w).trans (by rw [hb14]))) λa A↦?_
  refine qa (hK13 _ _ (wp_cond_false (A.ev rfl) ?_))
  refine wp_skip (hK12 _ _ (wsk fun K16 hK16 => wsk fun K17 hK17 => wrl ?_))
  iterate 2 refine sdm A λa A↦?_
  rcases tf (decide (n < m)) with hb18 | hb18
  ·
   have hb18' := of_decide_eq_true hb18
   refine sdo (v := .bool true) A (qb rfl rfl (fun w => (jd w).trans (by rw [hb18]))) λa A↦?_
   refine qa (hK17 _ _ (wp_cond_true (A.ev rfl) ?_))
   refine wsk fun K19 hK19 => wrl (sda A λa A↦?_)
   refine qa (hK19 _ _ (wp_ret (hret _ _ (en1 A rfl (qh rfl) ?_))))
   exact ⟨by rw [show ju m n = 1 from by unfold ju; (repeat' split) <;> omega], M.bel⟩
  ·
   have hb18' := of_decide_eq_false hb18
   refine sdo (v := .bool false) A (qb rfl rfl (fun w => (jd w).trans (by rw [hb18]))) λa A↦?_
   refine qa (hK17 _ _ (wp_cond_false (A.ev rfl) ?_))
   refine wp_skip (hK16 _ _ (wsk fun K20 hK20 => wrl (sda A λa A↦?_)))
   refine qa (hK20 _ _ (wp_ret (hret _ _ (en1 A rfl (qh rfl) ?_))))
   exact ⟨by rw [show ju m n = 0 from by unfold ju; (repeat' split) <;> omega], M.bel⟩
theorem ordQ_any {w : World} {y z : Nu} (hy : y.nm w) (hz : z.nm w) (h1 : qif y.q) (h2 : qif z.q) : Calls Tryz.prog 21 #[y.val, z.val] w fun e w' => e = .returned (.int .i64 (qki y.q z.q)) ∧ Below w.heap.size w w' := by
 obtain ⟨q, o1, c1, o2, c2, o3, c3, o4, c4⟩ := y
 obtain ⟨q', p1, d1, p2, d2, p3, d3, p4, d4⟩ := z
 obtain ⟨u, v, rfl, hu, hv⟩ := h1
 obtain ⟨x, y, rfl, hx, hy'⟩ := h2
 refine (ordNum_any hy hz hu hv hx hy').mono fun e w' ⟨h, b⟩ => ⟨h.trans ?_, b⟩
 unfold qki lex
 rw [ko, ko, qah, qah]
theorem EqB_is1_27 : Is1 Tryz.prog 27 := ⟨⟨_, Tryz.underlying27, rfl⟩, by kernel_rfl⟩
theorem EqB_is1_28 : Is1 Tryz.prog 28 := ⟨⟨_, Tryz.underlying28, rfl⟩, by kernel_rfl⟩
theorem EqB_is1_3 : Is1 Tryz.prog 3 := ⟨⟨_, Tryz.underlying3, rfl⟩, by kernel_rfl⟩
theorem EqB_is1_9 : Is1 Tryz.prog 9 := ⟨⟨_, Tryz.underlying9, rfl⟩, by kernel_rfl⟩
theorem EqB_fld_30_0 : FieldAt Tryz.prog 30 0 0 := ⟨_, _, Tryz.underlying30, rfl, rfl, by kernel_rfl⟩
theorem EqB_fld_30_1 : FieldAt Tryz.prog 30 1 1 := ⟨_, _, Tryz.underlying30, rfl, rfl, by kernel_rfl⟩
theorem EqB_fld_30_2 : FieldAt Tryz.prog 30 2 2 := ⟨_, _, Tryz.underlying30, rfl, rfl, by kernel_rfl⟩
theorem EqB_fld_30_3 : FieldAt Tryz.prog 30 3 8 := ⟨_, _, Tryz.underlying30, rfl, rfl, by kernel_rfl⟩
theorem EqB_fld_30_4 : FieldAt Tryz.prog 30 4 9 := ⟨_, _, Tryz.underlying30, rfl, rfl, by kernel_rfl⟩
theorem EqB_fld_30_5 : FieldAt Tryz.prog 30 5 10 := ⟨_, _, Tryz.underlying30, rfl, rfl, by kernel_rfl⟩
theorem EqB_isS_26 : IsS Tryz.prog 26 6 := ⟨⟨_, Tryz.underlying26⟩, by kernel_rfl⟩
theorem EqB_isS_30 : IsS Tryz.prog 30 11 := ⟨⟨_, Tryz.underlying30⟩, by kernel_rfl⟩
def Orders (n : Nat) : Prop := ∀ {w : World} {t u : Dt}, t.tr.bulk < n → t.rd w → u.rd w → t.tr.good → u.tr.good → Calls Tryz.prog 14 #[.agg (t.d.cells t.ts.length).toArray, .agg (u.d.cells u.ts.length).toArray] w fun e w' => e = .returned (.int .i64 (xz t.tr u.tr)) ∧ Below w.heap.size w w'
theorem cmpF_any {n : Nat} (ih : Orders n) {w : World} {t u : Dt} (ht : t.rd w) (hu : u.rd w) (gt : t.tr.good) (gu : u.tr.good) (hb : t.tr.bulk ≤ n) (hlen : t.ts.length = u.ts.length) : Calls Tryz.prog 42 #[.slice t.d.lo t.ts.length t.d.lc, .slice u.d.lo u.ts.length u.d.lc, .func (.func 14) #[] #[]] w fun e w' => e = .returned (.int .i64 (vz (t.ts.map Dt.tr) (u.ts.map Dt.tr))) ∧ Below w.heap.size w w' := by
 have hlt := (Dt.okT ht).2
 have M : Mg w w ([]) := Mg.start w
 refine ze (l := [(0, .slice t.d.lo t.ts.length t.d.lc), (1, .slice u.d.lo u.ts.length u.d.lc), (2, .func (.func 14) #[] #[])]) Tryz.func42 rfl Tryz.ntmps42 rfl rfl ?_
 intro Q hret hnorm hP a A
 refine wsk fun K1 hK1 => wrl (sda A λa A↦?_)
 refine qa (hK1 _ _ (wsk fun K2 hK2 => wsk fun K3 hK3 => wrl (sdm A λa A↦?_)))
 refine sdo A (qt Tryz.underlying28 rfl) λa A↦?_
 refine sdm A λa A↦?_
 refine qa (hK3 _ _ (wp_block (jr (fun m_ a w1 => ∃ (i : Nat), m_ = 1 + (t.ts.length - i) ∧ (i ≤ t.ts.length ∧ vz (t.ts.map Dt.tr) (u.ts.map Dt.tr) = vz ((t.ts.map Dt.tr).drop i) ((u.ts.map Dt.tr).drop i)) ∧ Sl a 39 [(0, .slice t.d.lo t.ts.length t.d.lc), (1, .slice u.d.lo u.ts.length u.d.lc), (2, .func (.func 14) #[] #[]), (11, .slice t.d.lo t.ts.length t.d.lc), (12, .int .i64 (((t.ts.length : Nat) : Int))), (13, .int .i64 (((i : Nat) : Int)))] ∧ Mg w w1 ([])) _ ⟨0, rfl, ⟨Nat.zero_le _, rfl⟩, A.keep _ ⟨rfl, rfl, rfl, rfl, rfl, rfl, trivial⟩, M⟩ ?_)))
 clear M A
 rintro m_ a w4 ⟨i, rfl, hinv6, A, M⟩ K5 hK5
 obtain ⟨hi0, hin9⟩ := hinv6
 refine wsk fun K7 hK7 => wrl ?_
 rcases tf (decide (((i : Nat) : Int) < ((t.ts.length : Nat) : Int))) with hb8 | hb8
 ·
  have hb8' := of_decide_eq_true hb8
  refine sdo (v := .bool true) A (qb rfl rfl (fun w => (zk w).trans (by rw [hb8]))) λa A↦?_
  refine qa (hK7 _ _ (wsk fun K9 hK9 => wp_cond_true (A.ev rfl) ?_))
  refine wp_skip (hK9 _ _ (wsk fun K10 hK10 => wp_block (wsk fun K11 hK11 => ?_)))
  obtain ⟨t1, bt1, ot1, it1, mt1, rt1_, lt1, Ht1⟩ := qgf ht (i := i) (by omega)
  obtain ⟨u1, bu1, ou1, iu1, mu1, ru1_, lu1, Hu1⟩ := qgf hu (i := i) (by omega)
  refine wrl (sdm A λa A↦?_)
  refine sdo (v := .pointer (some ⟨bt1, ot1 + i * 11, none⟩)) A (zx (k := i) Tryz.underlying28 (by kernel_rfl) rfl rfl rfl lt1 (by omega)) λa A↦?_
  refine sdo A (jt M Ht1 EqB_isS_30 rfl rfl) λa A↦?_
  refine xe (vs := [.int .i64 0, .int .i64 0, .bool false, .slice none 0 0, .slice none 0 0, .bool false, .slice none 0 0, .slice none 0 0, .string (⟨#[]⟩), .slice none 0 0, .slice none 0 0]) (t := 30) A M rfl rfl rfl pg (qy (z := .agg #[.int .i64 0, .int .i64 0, .bool false, .slice none 0 0, .slice none 0 0, .bool false, .slice none 0 0, .slice none 0 0, .string (⟨#[]⟩), .slice none 0 0, .slice none 0 0]) (by kernel_rfl) rfl) (by decide) ?_
  intro g12 w13 M a A
  refine sda A λa A↦?_
  refine js (us := [.int .i64 t1.d.k, .int .i64 t1.d.n, .bool t1.d.y.q.b1, .slice t1.d.y.o1 t1.d.y.q.t1.length t1.d.y.c1, .slice t1.d.y.o2 t1.d.y.q.q1.length t1.d.y.c2, .bool t1.d.y.q.b2, .slice t1.d.y.o3 t1.d.y.q.t2.length t1.d.y.c3, .slice t1.d.y.o4 t1.d.y.q.q2.length t1.d.y.c4, .string t1.d.s, .slice t1.d.ro t1.d.rl.length t1.d.rc, .slice t1.d.lo t1.ts.length t1.d.lc]) (L' := (.obj g12 (.cells (t1.d.cells t1.ts.length).toArray 30) :: [])) A M rfl rfl (jh rfl rfl rfl (by kernel_rfl) M 0 rfl rfl rfl) 0 rfl rfl rfl ?_
  intro w14 M
  refine qa (hK11 _ _ (wsk fun K15 hK15 => wsk fun K16 hK16 => wrl ?_))
  iterate 2 refine sdm A λa A↦?_
  refine sdo A (qt Tryz.underlying28 rfl) λa A↦?_
  refine sdo (v := .bool false) A (qb rfl rfl (fun w => (xi w).trans (by rw [show (decide (((u.ts.length : Nat) : Int) ≤ ((i : Nat) : Int))) = false from (decide_eq_false (by omega))]))) λa A↦?_
  refine qa (hK16 _ _ (wp_cond_false (A.ev rfl) ?_))
  refine wp_skip (hK15 _ _ (wsk fun K17 hK17 => wrl ?_))
  iterate 2 refine sdm A λa A↦?_
  refine sdo (v := .pointer (some ⟨bu1, ou1 + i * 11, none⟩)) A (zx (k := i) Tryz.underlying28 (by kernel_rfl) rfl rfl rfl lu1 (by omega)) λa A↦?_
  refine sdo A (jt M Hu1 EqB_isS_30 rfl rfl) λa A↦?_
  refine xe (vs := [.int .i64 0, .int .i64 0, .bool false, .slice none 0 0, .slice none 0 0, .bool false, .slice none 0 0, .slice none 0 0, .string (⟨#[]⟩), .slice none 0 0, .slice none 0 0]) (t := 30) A M rfl rfl rfl pg (qy (z := .agg #[.int .i64 0, .int .i64 0, .bool false, .slice none 0 0, .slice none 0 0, .bool false, .slice none 0 0, .slice none 0 0, .string (⟨#[]⟩), .slice none 0 0, .slice none 0 0]) (by kernel_rfl) rfl) (by decide) ?_
  intro g18 w19 M a A
  refine js (us := [.int .i64 u1.d.k, .int .i64 u1.d.n, .bool u1.d.y.q.b1, .slice u1.d.y.o1 u1.d.y.q.t1.length u1.d.y.c1, .slice u1.d.y.o2 u1.d.y.q.q1.length u1.d.y.c2, .bool u1.d.y.q.b2, .slice u1.d.y.o3 u1.d.y.q.t2.length u1.d.y.c3, .slice u1.d.y.o4 u1.d.y.q.q2.length u1.d.y.c4, .string u1.d.s, .slice u1.d.ro u1.d.rl.length u1.d.rc, .slice u1.d.lo u1.ts.length u1.d.lc]) (L' := (.obj g18 (.cells (u1.d.cells u1.ts.length).toArray 30) :: .obj g12 (.cells (t1.d.cells t1.ts.length).toArray 30) :: [])) A M rfl rfl (jh rfl rfl rfl (by kernel_rfl) M 0 rfl rfl rfl) 0 rfl rfl rfl ?_
  intro w20 M
  refine qa (hK17 _ _ (wsk fun K21 hK21 => wrl (sdm A λa A↦?_)))
  refine sdo A (zf M EqB_isS_30 rfl 1 rfl (cs := [.int .i64 t1.d.k, .int .i64 t1.d.n, .bool t1.d.y.q.b1, .slice t1.d.y.o1 t1.d.y.q.t1.length t1.d.y.c1, .slice t1.d.y.o2 t1.d.y.q.q1.length t1.d.y.c2, .bool t1.d.y.q.b2, .slice t1.d.y.o3 t1.d.y.q.t2.length t1.d.y.c3, .slice t1.d.y.o4 t1.d.y.q.q2.length t1.d.y.c4, .string t1.d.s, .slice t1.d.ro t1.d.rl.length t1.d.rc, .slice t1.d.lo t1.ts.length t1.d.lc]) rfl rfl) λa A↦?_
  refine sdo A (zf M EqB_isS_30 rfl 0 rfl (cs := [.int .i64 u1.d.k, .int .i64 u1.d.n, .bool u1.d.y.q.b1, .slice u1.d.y.o1 u1.d.y.q.t1.length u1.d.y.c1, .slice u1.d.y.o2 u1.d.y.q.q1.length u1.d.y.c2, .bool u1.d.y.q.b2, .slice u1.d.y.o3 u1.d.y.q.t2.length u1.d.y.c3, .slice u1.d.y.o4 u1.d.y.q.q2.length u1.d.y.c4, .string u1.d.s, .slice u1.d.ro u1.d.rl.length u1.d.rc, .slice u1.d.lo u1.ts.length u1.d.lc]) rfl rfl) λa A↦?_
  refine qi A rfl rfl rfl (qf rfl rfl (fun w => by kernel_rfl)) (ih (by have := uq mt1; omega) (Dt.keep M.bel _ rt1_) (Dt.keep M.bel _ ru1_) ((jn gt).2.2 _ mt1) ((jn gu).2.2 _ mu1)) ?_
  rintro _ w23 ⟨rfl, hb22⟩
  replace M := M.call hb22
  refine ⟨_, rfl, ?_⟩
  intro a A
  refine sda A λa A↦?_
  refine qa (hK21 _ _ (wsk fun K24 hK24 => wrl (sdm A λa A↦?_)))
  rcases tf ((xz t1.tr u1.tr != 0)) with hb25 | hb25
  ·
   have hb25' := bne_iff_ne.1 hb25
   refine sdo (v := .bool true) A (qb rfl rfl (fun w => (qz w).trans (by rw [hb25]))) λa A↦?_
   refine qa (hK24 _ _ (wp_cond_true (A.ev rfl) ?_))
   refine wsk fun K26 hK26 => wrl (sdm A λa A↦?_)
   refine sda A λa A↦?_
   refine qa (hK26 _ _ (wp_ret (hret _ _ (en1 A rfl (qh rfl) ?_))))
   exact ⟨by rw [hin9, qba it1 iu1, qde hb25'], M.bel⟩
  ·
   have hb25' := bne_eq_false_iff_eq.1 hb25
   refine sdo (v := .bool false) A (qb rfl rfl (fun w => (qz w).trans (by rw [hb25]))) λa A↦?_
   refine qa (hK24 _ _ (wp_cond_false (A.ev rfl) ?_))
   refine wp_skip (hK10 _ _ (wrl (sdo (v := .int .i64 (((i + 1 : Nat) : Int))) A (qb rfl rfl (fun w => (xj (vq (by omega) (by omega)) w).trans (by rw [show (((i : Nat) : Int) + 1 : Int) = ((i + 1 : Nat) : Int) from by omega]))) λa A↦?_)))
   refine sdm A λa A↦?_
   refine qa ?_
   replace M : Mg w w23 ([]) := by
    have h9 := M.sub (.cons _ (.cons _ (.refl _)))
    exact h9
   refine hK5 _ _ _ (by omega) ⟨i + 1, rfl, ⟨by omega, by rw [hin9, qba it1 iu1, hb25', qdd]⟩, A.keep _ ⟨rfl, rfl, rfl, rfl, rfl, rfl, trivial⟩, M⟩
 ·
  have hb8' := of_decide_eq_false hb8
  refine sdo (v := .bool false) A (qb rfl rfl (fun w => (zk w).trans (by rw [hb8]))) λa A↦?_
  refine qa (hK7 _ _ (wsk fun K27 hK27 => wp_cond_false (A.ev rfl) ?_))
  refine wp_exit (hK2 _ _ (wsk fun K28 hK28 => wsk fun K29 hK29 => wrl (sdm A λa A↦?_)))
  refine sdo A (qt Tryz.underlying28 rfl) λa A↦?_
  refine sdm A λa A↦?_
  refine sdo A (qt Tryz.underlying28 rfl) λa A↦?_
  refine sdo (v := .bool false) A (qb rfl rfl (fun w => (zk w).trans (by rw [show (decide (((t.ts.length : Nat) : Int) < ((u.ts.length : Nat) : Int))) = false from (decide_eq_false (by omega))]))) λa A↦?_
  refine qa (hK29 _ _ (wp_cond_false (A.ev rfl) ?_))
  refine wp_skip (hK28 _ _ (wsk fun K30 hK30 => wrl (sda A λa A↦?_)))
  refine qa (hK30 _ _ (wp_ret (hret _ _ (en1 A rfl (qh rfl) ?_))))
  exact ⟨by rw [hin9, qii (by omega)], M.bel⟩
theorem vec_any {n : Nat} (ih : Orders n) {w : World} {t u : Dt} (ht : t.rd w) (hu : u.rd w) (gt : t.tr.good) (gu : u.tr.good) (hb : t.tr.bulk ≤ n) : Calls Tryz.prog 24 #[.slice t.d.lo t.ts.length t.d.lc, .slice u.d.lo u.ts.length u.d.lc] w fun e w' => e = .returned (.int .i64 (lex (ju (t.ts.length : Int) (u.ts.length : Int)) (vz (t.ts.map Dt.tr) (u.ts.map Dt.tr)))) ∧ Below w.heap.size w w' := by
 have M : Mg w w ([]) := Mg.start w
 refine ze (l := [(0, .slice t.d.lo t.ts.length t.d.lc), (1, .slice u.d.lo u.ts.length u.d.lc)]) Tryz.func24 rfl Tryz.ntmps24 rfl rfl ?_
 intro Q hret hnorm hP a A
 refine wsk fun K1 hK1 => wrl (sda A λa A↦?_)
 refine qa (hK1 _ _ (wsk fun K2 hK2 => wsk fun K3 hK3 => wrl (sdm A λa A↦?_)))
 refine sdo A (qt Tryz.underlying28 rfl) λa A↦?_
 refine sdm A λa A↦?_
 refine sdo A (qt Tryz.underlying28 rfl) λa A↦?_
 rcases tf ((((t.ts.length : Nat) : Int) != ((u.ts.length : Nat) : Int))) with hb4 | hb4
 ·
  have hb4' := bne_iff_ne.1 hb4
  refine sdo (v := .bool true) A (qb rfl rfl (fun w => (qz w).trans (by rw [hb4]))) λa A↦?_
  refine qa (hK3 _ _ (wp_cond_true (A.ev rfl) ?_))
  refine wsk fun K5 hK5 => wrl (sdm A λa A↦?_)
  refine sdo A (qt Tryz.underlying28 rfl) λa A↦?_
  refine sdm A λa A↦?_
  refine sdo A (qt Tryz.underlying28 rfl) λa A↦?_
  refine qi A rfl rfl rfl (qf rfl rfl (fun w => by kernel_rfl)) (uz) ?_
  rintro _ w7 ⟨rfl, hb6⟩
  replace M := M.call hb6
  refine ⟨_, rfl, ?_⟩
  intro a A
  refine sda A λa A↦?_
  refine qa (hK5 _ _ (wp_ret (hret _ _ (en1 A rfl (qh rfl) ?_))))
  exact ⟨by rw [qde (fun e => hb4' (vk e))], M.bel⟩
 ·
  have hb4' := bne_eq_false_iff_eq.1 hb4
  refine sdo (v := .bool false) A (qb rfl rfl (fun w => (qz w).trans (by rw [hb4]))) λa A↦?_
  refine qa (hK3 _ _ (wp_cond_false (A.ev rfl) ?_))
  refine wp_skip (hK2 _ _ (wsk fun K8 hK8 => wrl ?_))
  iterate 2 refine sdm A λa A↦?_
  refine qi A rfl rfl rfl (qf rfl rfl (fun w => by kernel_rfl)) (cmpF_any ih (Dt.keep M.bel _ ht) (Dt.keep M.bel _ hu) gt gu hb (by omega)) ?_
  rintro _ w9 ⟨rfl, hbv⟩
  replace M := M.call hbv
  refine ⟨_, rfl, ?_⟩
  intro a A
  refine sda A λa A↦?_
  refine qa (hK8 _ _ (wp_ret (hret _ _ (en1 A rfl (qh rfl) ?_))))
  exact ⟨by rw [hb4', yk, qdd], M.bel⟩
theorem orders_step {n : Nat} (ih : Orders n) : Orders (n + 1) := by
 intro w t u hn ht hu gt gu
 have M : Mg w w ([]) := Mg.start w
 refine ze (l := [(0, .agg (t.d.cells t.ts.length).toArray), (1, .agg (u.d.cells u.ts.length).toArray)]) Tryz.func14 rfl Tryz.ntmps14 rfl rfl ?_
 intro Q hret hnorm hP a A
 refine wsk fun K1 hK1 => wrl (xe (vs := [.int .i64 t.d.k, .int .i64 t.d.n, .bool t.d.y.q.b1, .slice t.d.y.o1 t.d.y.q.t1.length t.d.y.c1, .slice t.d.y.o2 t.d.y.q.q1.length t.d.y.c2, .bool t.d.y.q.b2, .slice t.d.y.o3 t.d.y.q.t2.length t.d.y.c3, .slice t.d.y.o4 t.d.y.q.q2.length t.d.y.c4, .string t.d.s, .slice t.d.ro t.d.rl.length t.d.rc, .slice t.d.lo t.ts.length t.d.lc]) (t := 30) A M rfl rfl rfl pg (qx rfl rfl) (by decide) ?_)
 intro g2 w3 M a A
 refine xe (vs := [.int .i64 u.d.k, .int .i64 u.d.n, .bool u.d.y.q.b1, .slice u.d.y.o1 u.d.y.q.t1.length u.d.y.c1, .slice u.d.y.o2 u.d.y.q.q1.length u.d.y.c2, .bool u.d.y.q.b2, .slice u.d.y.o3 u.d.y.q.t2.length u.d.y.c3, .slice u.d.y.o4 u.d.y.q.q2.length u.d.y.c4, .string u.d.s, .slice u.d.ro u.d.rl.length u.d.rc, .slice u.d.lo u.ts.length u.d.lc]) (t := 30) A M rfl rfl rfl pg (qx rfl rfl) (by decide) ?_
 intro g4 w5 M a A
 refine sda A λa A↦?_
 refine qa (hK1 _ _ (wsk fun K6 hK6 => wp_block (jr (fun m_ a w1 => ∃ (p : Dt) (r : Dt), m_ = 1 + p.tr.bulk ∧ (p.rd w ∧ r.rd w ∧ p.tr.good ∧ r.tr.good ∧ p.tr.bulk ≤ t.tr.bulk ∧ xz t.tr u.tr = xz p.tr r.tr) ∧ Sl a 84 [(0, .agg (t.d.cells t.ts.length).toArray), (1, .agg (u.d.cells u.ts.length).toArray), (2, .pointer (some ⟨g2, 0, none⟩)), (3, .pointer (some ⟨g4, 0, none⟩))] ∧ Mg w w1 (.obj g4 (.cells (r.d.cells r.ts.length).toArray 30) :: .obj g2 (.cells (p.d.cells p.ts.length).toArray 30) :: [])) _ ⟨t, u, rfl, ⟨ht, hu, gt, gu, Nat.le_refl _, rfl⟩, A.keep _ ⟨rfl, rfl, rfl, rfl, trivial⟩, M⟩ ?_)))
 clear M A
 rintro m_ a w7 ⟨p, r, rfl, hinv9, A, M⟩ K8 hK8
 obtain ⟨hp, hr, gp, gr, hbk, hin9⟩ := hinv9
 refine wsk fun K10 hK10 => wsk fun K11 hK11 => wrl (sdo (v := .pointer (some ⟨g2, 0, none⟩)) A (qe EqB_fld_30_0 rfl rfl) λa A↦?_)
 refine sdo A (qm M EqB_is1_3 rfl 1 rfl rfl) λa A↦?_
 rcases tf ((p.d.k == 8)) with hb12 | hb12
 ·
  have hb12' := eq_of_beq hb12
  refine sdo (v := .bool true) A (qb rfl rfl (fun w => (ql w).trans (by rw [hb12]))) λa A↦?_
  refine sdm A λa A↦?_
  refine sdo (v := .pointer (some ⟨g4, 0, none⟩)) A (qe EqB_fld_30_0 rfl rfl) λa A↦?_
  refine sdo A (qm M EqB_is1_3 rfl 0 rfl rfl) λa A↦?_
  rcases tf ((r.d.k == 8)) with hb13 | hb13
  ·
   have hb13' := eq_of_beq hb13
   refine sdo (v := .bool true) A (qb rfl rfl (fun w => (ql w).trans (by rw [hb13]))) λa A↦?_
   refine sdk (v := .bool true) A λa A↦?_
   refine qa (hK11 _ _ (wp_cond_true (A.ev rfl) ?_))
   refine wp_skip (hK10 _ _ (wp_block (wsk fun K14 hK14 => wsk fun K15 hK15 => ?_)))
   have l2p := (jn gp).1.h8 hb12'
   have l2r := (jn gr).1.h8 hb13'
   obtain ⟨p0, bp0, op0, ip0, mp0, rp0_, lp0, Hp0⟩ := qgf hp (i := 0) (by omega)
   obtain ⟨p1, bp1, op1, ip1, mp1, rp1_, lp1, Hp1⟩ := qgf hp (i := 1) (by omega)
   obtain ⟨r0, br0, or0, ir0, mr0, rr0_, lr0, Hr0⟩ := qgf hr (i := 0) (by omega)
   obtain ⟨r1, br1, or1, ir1, mr1, rr1_, lr1, Hr1⟩ := qgf hr (i := 1) (by omega)
   have hpq := ord_pair hb12' hb13' l2p l2r ip0 ip1 ir0 ir1
   refine ja (S := fun w1 => Mg w w1 (.obj g4 (.cells (r.d.cells r.ts.length).toArray 30) :: .obj g2 (.cells (p.d.cells p.ts.length).toArray 30) :: [])) (by kernel_rfl) ?_
   replace M := M.drew
   refine qg (v := .pointer (some ⟨g2, 10, none⟩)) A 0 rfl rfl rfl rfl hP (M.sub (.cons_cons _ (.cons_cons _ (List.nil_sublist _)))) (fun w1 M => qe EqB_fld_30_5 rfl rfl) λa A↦?_
   refine qg A 1 rfl rfl rfl rfl hP (M.sub (.cons_cons _ (.cons_cons _ (List.nil_sublist _)))) (fun w1 M => qm M EqB_is1_28 rfl 1 rfl rfl) λa A↦?_
   refine qg (v := .pointer (some ⟨bp0, op0 + 0 * 11, none⟩)) A 2 rfl rfl rfl rfl hP (M.sub (.cons_cons _ (.cons_cons _ (List.nil_sublist _)))) (fun w1 M => zx (k := 0) Tryz.underlying28 (by kernel_rfl) rfl rfl rfl lp0 (by omega)) λa A↦?_
   refine qg A 3 rfl rfl rfl rfl hP (M.sub (.cons_cons _ (.cons_cons _ (List.nil_sublist _)))) (fun w1 M => jt M Hp0 EqB_isS_30 rfl rfl) λa A↦?_
   refine qg (v := .pointer (some ⟨g4, 10, none⟩)) A 4 rfl rfl rfl rfl hP (M.sub (.cons_cons _ (.cons_cons _ (List.nil_sublist _)))) (fun w1 M => qe EqB_fld_30_5 rfl rfl) λa A↦?_
   refine qg A 5 rfl rfl rfl rfl hP (M.sub (.cons_cons _ (.cons_cons _ (List.nil_sublist _)))) (fun w1 M => qm M EqB_is1_28 rfl 0 rfl rfl) λa A↦?_
   refine qg (v := .pointer (some ⟨br0, or0 + 0 * 11, none⟩)) A 6 rfl rfl rfl rfl hP (M.sub (.cons_cons _ (.cons_cons _ (List.nil_sublist _)))) (fun w1 M => zx (k := 0) Tryz.underlying28 (by kernel_rfl) rfl rfl rfl lr0 (by omega)) λa A↦?_
   refine qg A 7 rfl rfl rfl rfl hP (M.sub (.cons_cons _ (.cons_cons _ (List.nil_sublist _)))) (fun w1 M => jt M Hr0 EqB_isS_30 rfl rfl) λa A↦?_
   refine qn (by kernel_rfl) (qw A 8 rfl rfl rfl rfl (qf rfl rfl (fun w => by kernel_rfl)) (ih (by have := uq mp0; omega) (Dt.keep M.bel _ rp0_) (Dt.keep M.bel _ rr0_) ((jn gp).2.2 _ mp0) ((jn gr).2.2 _ mr0)) ?_)
   rintro _ w17 ⟨rfl, hb16⟩
   replace M := M.call hb16
   refine ⟨_, rfl, (M.sub (.cons_cons _ (.cons_cons _ (List.nil_sublist _)))), ?_⟩
   intro a A
   refine qg A 9 rfl rfl rfl rfl hP (M.sub (.cons_cons _ (.cons_cons _ (List.nil_sublist _)))) (fun w1 M => zp rfl) λa A↦?_
   refine zi (by kernel_rfl) ?_
   refine hK15 _ _ (wsk fun K18 hK18 => wrl (sdm A λa A↦?_))
   rcases tf ((xz p0.tr r0.tr != 0)) with hb19 | hb19
   ·
    have hb19' := bne_iff_ne.1 hb19
    refine sdo (v := .bool true) A (qb rfl rfl (fun w => (qz w).trans (by rw [hb19]))) λa A↦?_
    refine qa (hK18 _ _ (wp_cond_true (A.ev rfl) ?_))
    refine wsk fun K20 hK20 => wrl (sdm A λa A↦?_)
    refine sda A λa A↦?_
    refine qa (hK20 _ _ (wp_ret (hret _ _ (en1 A rfl (qh rfl) ?_))))
    exact ⟨by rw [hin9, hpq, qde hb19'], M.bel⟩
   ·
    have hb19' := bne_eq_false_iff_eq.1 hb19
    refine sdo (v := .bool false) A (qb rfl rfl (fun w => (qz w).trans (by rw [hb19]))) λa A↦?_
    refine qa (hK18 _ _ (wp_cond_false (A.ev rfl) ?_))
    refine wp_skip (hK14 _ _ ?_)
    have hJ21 : ∀ a w1, (∃ (z_ : Unit), Sl a 84 [(0, .agg (t.d.cells t.ts.length).toArray), (1, .agg (u.d.cells u.ts.length).toArray), (2, .pointer (some ⟨g2, 0, none⟩)), (3, .pointer (some ⟨g4, 0, none⟩)), (5, .int .i64 (xz p0.tr r0.tr)), (6, .pointer (some ⟨g2, 0, none⟩)), (7, .int .i64 p.d.k), (8, .bool true), (9, .bool true), (10, .pointer (some ⟨g4, 0, none⟩)), (11, .int .i64 r.d.k), (12, .bool true), (13, .bool true), (14, .pointer (some ⟨g2, 10, none⟩)), (15, .slice p.d.lo p.ts.length p.d.lc), (16, .pointer (some ⟨bp0, op0 + 0 * 11, none⟩)), (17, .agg (p0.d.cells p0.ts.length).toArray), (18, .pointer (some ⟨g4, 10, none⟩)), (19, .slice r.d.lo r.ts.length r.d.lc), (20, .pointer (some ⟨br0, or0 + 0 * 11, none⟩)), (21, .agg (r0.d.cells r0.ts.length).toArray), (22, .int .i64 (xz p0.tr r0.tr)), (23, .int .i64 (xz p0.tr r0.tr)), (24, .bool false)] ∧ Mg w w1 (.obj g4 (.cells (r1.d.cells r1.ts.length).toArray 30) :: .obj g2 (.cells (p1.d.cells p1.ts.length).toArray 30) :: [])) → K8 a w1 := by
     clear A M
     rintro a w22 ⟨z_, A, M⟩
     refine hK8 _ _ _ (by have := uq mp1; omega) ⟨p1, r1, rfl, ⟨rp1_, rr1_, (jn gp).2.2 _ mp1, (jn gr).2.2 _ mr1, by have := uq mp1; omega, by rw [hin9, hpq, hb19', qdd]⟩, A.keep _ ⟨rfl, rfl, rfl, rfl, trivial⟩, M⟩
    refine ja (S := fun w1 => Mg w w1 ([])) (by kernel_rfl) ?_
    replace M := M.drew
    refine qg (v := .pointer (some ⟨g2, 10, none⟩)) A 0 rfl rfl rfl rfl hP (M.sub (.cons _ (.cons _ (List.nil_sublist _)))) (fun w1 M => qe EqB_fld_30_5 rfl rfl) λa A↦?_
    refine qg (v := .pointer (some ⟨g4, 10, none⟩)) A 4 rfl rfl rfl rfl hP (M.sub (.cons _ (.cons _ (List.nil_sublist _)))) (fun w1 M => qe EqB_fld_30_5 rfl rfl) λa A↦?_
    refine xg (rs := [1, 5]) (by kernel_rfl) (by simp) ⟨?_, ?_, trivial⟩
    ·
     refine qhh A 1 rfl rfl rfl rfl (qm M EqB_is1_28 rfl 1 rfl rfl) (M.sub (.cons _ (.cons _ (List.nil_sublist _)))) λa A↦?_
     refine qg (v := .pointer (some ⟨bp1, op1 + 1 * 11, none⟩)) A 2 rfl rfl rfl rfl hP (M.sub (.cons _ (.cons _ (List.nil_sublist _)))) (fun w1 M => zx (k := 1) Tryz.underlying28 (by kernel_rfl) rfl rfl rfl lp1 (by omega)) λa A↦?_
     refine qg A 3 rfl rfl rfl rfl hP (M.sub (.cons _ (.cons _ (List.nil_sublist _)))) (fun w1 M => jt M Hp1 EqB_isS_30 rfl rfl) λa A↦?_
     refine xg (rs := [5, 8]) (by kernel_rfl) (by simp) ⟨?_, ?_, trivial⟩
     ·
      refine qhh A 5 rfl rfl rfl rfl (qm M EqB_is1_28 rfl 0 rfl rfl) (M.sub (.cons _ (.cons _ (List.nil_sublist _)))) λa A↦?_
      refine qg (v := .pointer (some ⟨br1, or1 + 1 * 11, none⟩)) A 6 rfl rfl rfl rfl hP (M.sub (.cons _ (.cons _ (List.nil_sublist _)))) (fun w1 M => zx (k := 1) Tryz.underlying28 (by kernel_rfl) rfl rfl rfl lr1 (by omega)) λa A↦?_
      refine qg A 7 rfl rfl rfl rfl hP (M.sub (.cons _ (.cons _ (List.nil_sublist _)))) (fun w1 M => jt M Hr1 EqB_isS_30 rfl rfl) λa A↦?_
      refine qn (by kernel_rfl) (qad (us := [.int .i64 p1.d.k, .int .i64 p1.d.n, .bool p1.d.y.q.b1, .slice p1.d.y.o1 p1.d.y.q.t1.length p1.d.y.c1, .slice p1.d.y.o2 p1.d.y.q.q1.length p1.d.y.c2, .bool p1.d.y.q.b2, .slice p1.d.y.o3 p1.d.y.q.t2.length p1.d.y.c3, .slice p1.d.y.o4 p1.d.y.q.q2.length p1.d.y.c4, .string p1.d.s, .slice p1.d.ro p1.d.rl.length p1.d.rc, .slice p1.d.lo p1.ts.length p1.d.lc]) (L' := (.obj g4 (.cells (r.d.cells r.ts.length).toArray 30) :: .obj g2 (.cells (p1.d.cells p1.ts.length).toArray 30) :: [])) A M 8 rfl rfl rfl (jh rfl rfl rfl (by kernel_rfl) M 1 rfl rfl rfl) 1 rfl rfl rfl ?_)
      intro w23 M
      refine ⟨(M.sub (.cons _ (.cons _ (List.nil_sublist _)))), ?_⟩
      refine qn (by kernel_rfl) (qad (us := [.int .i64 r1.d.k, .int .i64 r1.d.n, .bool r1.d.y.q.b1, .slice r1.d.y.o1 r1.d.y.q.t1.length r1.d.y.c1, .slice r1.d.y.o2 r1.d.y.q.q1.length r1.d.y.c2, .bool r1.d.y.q.b2, .slice r1.d.y.o3 r1.d.y.q.t2.length r1.d.y.c3, .slice r1.d.y.o4 r1.d.y.q.q2.length r1.d.y.c4, .string r1.d.s, .slice r1.d.ro r1.d.rl.length r1.d.rc, .slice r1.d.lo r1.ts.length r1.d.lc]) (L' := (.obj g4 (.cells (r1.d.cells r1.ts.length).toArray 30) :: .obj g2 (.cells (p1.d.cells p1.ts.length).toArray 30) :: [])) A M 9 rfl rfl rfl (jh rfl rfl rfl (by kernel_rfl) M 0 rfl rfl rfl) 0 rfl rfl rfl ?_)
      intro w24 M
      refine ⟨(M.sub (.cons _ (.cons _ (List.nil_sublist _)))), ?_⟩
      refine zi (by kernel_rfl) ?_
      exact hJ21 _ _ ⟨(), A.keep _ ⟨rfl, rfl, rfl, rfl, rfl, rfl, rfl, rfl, rfl, rfl, rfl, rfl, rfl, rfl, rfl, rfl, rfl, rfl, rfl, rfl, rfl, rfl, rfl, rfl, trivial⟩, M⟩
     ·
      refine qad (us := [.int .i64 p1.d.k, .int .i64 p1.d.n, .bool p1.d.y.q.b1, .slice p1.d.y.o1 p1.d.y.q.t1.length p1.d.y.c1, .slice p1.d.y.o2 p1.d.y.q.q1.length p1.d.y.c2, .bool p1.d.y.q.b2, .slice p1.d.y.o3 p1.d.y.q.t2.length p1.d.y.c3, .slice p1.d.y.o4 p1.d.y.q.q2.length p1.d.y.c4, .string p1.d.s, .slice p1.d.ro p1.d.rl.length p1.d.rc, .slice p1.d.lo p1.ts.length p1.d.lc]) (L' := (.obj g4 (.cells (r.d.cells r.ts.length).toArray 30) :: .obj g2 (.cells (p1.d.cells p1.ts.length).toArray 30) :: [])) A M 8 rfl rfl rfl (jh rfl rfl rfl (by kernel_rfl) M 1 rfl rfl rfl) 1 rfl rfl rfl ?_
      intro w25 M
      refine ⟨(M.sub (.cons _ (.cons _ (List.nil_sublist _)))), ?_⟩
      refine qn (by kernel_rfl) (qhh A 5 rfl rfl rfl rfl (qm M EqB_is1_28 rfl 0 rfl rfl) (M.sub (.cons _ (.cons _ (List.nil_sublist _)))) ?_)
      intro a A
      refine qg (v := .pointer (some ⟨br1, or1 + 1 * 11, none⟩)) A 6 rfl rfl rfl rfl hP (M.sub (.cons _ (.cons _ (List.nil_sublist _)))) (fun w1 M => zx (k := 1) Tryz.underlying28 (by kernel_rfl) rfl rfl rfl lr1 (by omega)) λa A↦?_
      refine qg A 7 rfl rfl rfl rfl hP (M.sub (.cons _ (.cons _ (List.nil_sublist _)))) (fun w1 M => jt M Hr1 EqB_isS_30 rfl rfl) λa A↦?_
      refine qn (by kernel_rfl) (qad (us := [.int .i64 r1.d.k, .int .i64 r1.d.n, .bool r1.d.y.q.b1, .slice r1.d.y.o1 r1.d.y.q.t1.length r1.d.y.c1, .slice r1.d.y.o2 r1.d.y.q.q1.length r1.d.y.c2, .bool r1.d.y.q.b2, .slice r1.d.y.o3 r1.d.y.q.t2.length r1.d.y.c3, .slice r1.d.y.o4 r1.d.y.q.q2.length r1.d.y.c4, .string r1.d.s, .slice r1.d.ro r1.d.rl.length r1.d.rc, .slice r1.d.lo r1.ts.length r1.d.lc]) (L' := (.obj g4 (.cells (r1.d.cells r1.ts.length).toArray 30) :: .obj g2 (.cells (p1.d.cells p1.ts.length).toArray 30) :: [])) A M 9 rfl rfl rfl (jh rfl rfl rfl (by kernel_rfl) M 0 rfl rfl rfl) 0 rfl rfl rfl ?_)
      intro w26 M
      refine ⟨(M.sub (.cons _ (.cons _ (List.nil_sublist _)))), ?_⟩
      refine zi (by kernel_rfl) ?_
      exact hJ21 _ _ ⟨(), A.keep _ ⟨rfl, rfl, rfl, rfl, rfl, rfl, rfl, rfl, rfl, rfl, rfl, rfl, rfl, rfl, rfl, rfl, rfl, rfl, rfl, rfl, rfl, rfl, rfl, rfl, trivial⟩, M⟩
    ·
     refine qhh A 5 rfl rfl rfl rfl (qm M EqB_is1_28 rfl 0 rfl rfl) (M.sub (.cons _ (.cons _ (List.nil_sublist _)))) λa A↦?_
     refine qg (v := .pointer (some ⟨br1, or1 + 1 * 11, none⟩)) A 6 rfl rfl rfl rfl hP (M.sub (.cons _ (.cons _ (List.nil_sublist _)))) (fun w1 M => zx (k := 1) Tryz.underlying28 (by kernel_rfl) rfl rfl rfl lr1 (by omega)) λa A↦?_
     refine qg A 7 rfl rfl rfl rfl hP (M.sub (.cons _ (.cons _ (List.nil_sublist _)))) (fun w1 M => jt M Hr1 EqB_isS_30 rfl rfl) λa A↦?_
     refine qn (by kernel_rfl) (qhh A 1 rfl rfl rfl rfl (qm M EqB_is1_28 rfl 1 rfl rfl) (M.sub (.cons _ (.cons _ (List.nil_sublist _)))) ?_)
     intro a A
     refine qg (v := .pointer (some ⟨bp1, op1 + 1 * 11, none⟩)) A 2 rfl rfl rfl rfl hP (M.sub (.cons _ (.cons _ (List.nil_sublist _)))) (fun w1 M => zx (k := 1) Tryz.underlying28 (by kernel_rfl) rfl rfl rfl lp1 (by omega)) λa A↦?_
     refine qg A 3 rfl rfl rfl rfl hP (M.sub (.cons _ (.cons _ (List.nil_sublist _)))) (fun w1 M => jt M Hp1 EqB_isS_30 rfl rfl) λa A↦?_
     refine qn (by kernel_rfl) (qad (us := [.int .i64 p1.d.k, .int .i64 p1.d.n, .bool p1.d.y.q.b1, .slice p1.d.y.o1 p1.d.y.q.t1.length p1.d.y.c1, .slice p1.d.y.o2 p1.d.y.q.q1.length p1.d.y.c2, .bool p1.d.y.q.b2, .slice p1.d.y.o3 p1.d.y.q.t2.length p1.d.y.c3, .slice p1.d.y.o4 p1.d.y.q.q2.length p1.d.y.c4, .string p1.d.s, .slice p1.d.ro p1.d.rl.length p1.d.rc, .slice p1.d.lo p1.ts.length p1.d.lc]) (L' := (.obj g4 (.cells (r.d.cells r.ts.length).toArray 30) :: .obj g2 (.cells (p1.d.cells p1.ts.length).toArray 30) :: [])) A M 8 rfl rfl rfl (jh rfl rfl rfl (by kernel_rfl) M 1 rfl rfl rfl) 1 rfl rfl rfl ?_)
     intro w27 M
     refine ⟨(M.sub (.cons _ (.cons _ (List.nil_sublist _)))), ?_⟩
     refine qn (by kernel_rfl) (qad (us := [.int .i64 r1.d.k, .int .i64 r1.d.n, .bool r1.d.y.q.b1, .slice r1.d.y.o1 r1.d.y.q.t1.length r1.d.y.c1, .slice r1.d.y.o2 r1.d.y.q.q1.length r1.d.y.c2, .bool r1.d.y.q.b2, .slice r1.d.y.o3 r1.d.y.q.t2.length r1.d.y.c3, .slice r1.d.y.o4 r1.d.y.q.q2.length r1.d.y.c4, .string r1.d.s, .slice r1.d.ro r1.d.rl.length r1.d.rc, .slice r1.d.lo r1.ts.length r1.d.lc]) (L' := (.obj g4 (.cells (r1.d.cells r1.ts.length).toArray 30) :: .obj g2 (.cells (p1.d.cells p1.ts.length).toArray 30) :: [])) A M 9 rfl rfl rfl (jh rfl rfl rfl (by kernel_rfl) M 0 rfl rfl rfl) 0 rfl rfl rfl ?_)
     intro w28 M
     refine ⟨(M.sub (.cons _ (.cons _ (List.nil_sublist _)))), ?_⟩
     refine zi (by kernel_rfl) ?_
     exact hJ21 _ _ ⟨(), A.keep _ ⟨rfl, rfl, rfl, rfl, rfl, rfl, rfl, rfl, rfl, rfl, rfl, rfl, rfl, rfl, rfl, rfl, rfl, rfl, rfl, rfl, rfl, rfl, rfl, rfl, trivial⟩, M⟩
  ·
   have hb13' := ne_of_beq_false hb13
   refine sdo (v := .bool false) A (qb rfl rfl (fun w => (ql w).trans (by rw [hb13]))) λa A↦?_
   refine sdk (v := .bool false) A λa A↦?_
   refine qa (hK11 _ _ (wp_cond_false (A.ev rfl) ?_))
   refine wp_exit (hK6 _ _ (wsk fun K29 hK29 => wsk fun K30 hK30 => wrl (sdo (v := .pointer (some ⟨g2, 0, none⟩)) A (qe EqB_fld_30_0 rfl rfl) λa A↦?_)))
   refine sdo A (qm M EqB_is1_3 rfl 1 rfl rfl) λa A↦?_
   refine sdo (v := .pointer (some ⟨g4, 0, none⟩)) A (qe EqB_fld_30_0 rfl rfl) λa A↦?_
   refine sdo A (qm M EqB_is1_3 rfl 0 rfl rfl) λa A↦?_
   refine sdo (v := .bool true) A (qb rfl rfl (fun w => (qz w).trans (by rw [show ((p.d.k != r.d.k)) = true from (bne_iff_ne.2 (by omega))]))) λa A↦?_
   refine qa (hK30 _ _ (wp_cond_true (A.ev rfl) ?_))
   refine wsk fun K31 hK31 => wrl (sdo (v := .pointer (some ⟨g2, 0, none⟩)) A (qe EqB_fld_30_0 rfl rfl) λa A↦?_)
   refine sdo A (qm M EqB_is1_3 rfl 1 rfl rfl) λa A↦?_
   refine sdo (v := .pointer (some ⟨g4, 0, none⟩)) A (qe EqB_fld_30_0 rfl rfl) λa A↦?_
   refine sdo A (qm M EqB_is1_3 rfl 0 rfl rfl) λa A↦?_
   refine qi A rfl rfl rfl (qf rfl rfl (fun w => by kernel_rfl)) (uz) ?_
   rintro _ w33 ⟨rfl, hb32⟩
   replace M := M.call hb32
   refine ⟨_, rfl, ?_⟩
   intro a A
   refine sda A λa A↦?_
   refine qa (hK31 _ _ (wp_ret (hret _ _ (en1 A rfl (qh rfl) ?_))))
   exact ⟨by rw [hin9, qig (by omega)], M.bel⟩
 ·
  have hb12' := ne_of_beq_false hb12
  refine sdo (v := .bool false) A (qb rfl rfl (fun w => (ql w).trans (by rw [hb12]))) λa A↦?_
  refine sdm A λa A↦?_
  iterate 3 refine qk A rfl rfl rfl λa A↦?_
  refine sdk (v := .bool false) A λa A↦?_
  refine qa (hK11 _ _ (wp_cond_false (A.ev rfl) ?_))
  refine wp_exit (hK6 _ _ (wsk fun K34 hK34 => wsk fun K35 hK35 => wrl (sdo (v := .pointer (some ⟨g2, 0, none⟩)) A (qe EqB_fld_30_0 rfl rfl) λa A↦?_)))
  refine sdo A (qm M EqB_is1_3 rfl 1 rfl rfl) λa A↦?_
  refine sdo (v := .pointer (some ⟨g4, 0, none⟩)) A (qe EqB_fld_30_0 rfl rfl) λa A↦?_
  refine sdo A (qm M EqB_is1_3 rfl 0 rfl rfl) λa A↦?_
  rcases tf ((p.d.k != r.d.k)) with hb36 | hb36
  ·
   have hb36' := bne_iff_ne.1 hb36
   refine sdo (v := .bool true) A (qb rfl rfl (fun w => (qz w).trans (by rw [hb36]))) λa A↦?_
   refine qa (hK35 _ _ (wp_cond_true (A.ev rfl) ?_))
   refine wsk fun K37 hK37 => wrl (sdo (v := .pointer (some ⟨g2, 0, none⟩)) A (qe EqB_fld_30_0 rfl rfl) λa A↦?_)
   refine sdo A (qm M EqB_is1_3 rfl 1 rfl rfl) λa A↦?_
   refine sdo (v := .pointer (some ⟨g4, 0, none⟩)) A (qe EqB_fld_30_0 rfl rfl) λa A↦?_
   refine sdo A (qm M EqB_is1_3 rfl 0 rfl rfl) λa A↦?_
   refine qi A rfl rfl rfl (qf rfl rfl (fun w => by kernel_rfl)) (uz) ?_
   rintro _ w39 ⟨rfl, hb38⟩
   replace M := M.call hb38
   refine ⟨_, rfl, ?_⟩
   intro a A
   refine sda A λa A↦?_
   refine qa (hK37 _ _ (wp_ret (hret _ _ (en1 A rfl (qh rfl) ?_))))
   exact ⟨by rw [hin9, qig (by omega)], M.bel⟩
  ·
   have hb36' := bne_eq_false_iff_eq.1 hb36
   refine sdo (v := .bool false) A (qb rfl rfl (fun w => (qz w).trans (by rw [hb36]))) λa A↦?_
   refine qa (hK35 _ _ (wp_cond_false (A.ev rfl) ?_))
   refine wp_skip (hK34 _ _ (wsk fun K40 hK40 => wsk fun K41 hK41 => wrl (sdo (v := .pointer (some ⟨g2, 0, none⟩)) A (qe EqB_fld_30_0 rfl rfl) λa A↦?_)))
   refine sdo A (qm M EqB_is1_3 rfl 1 rfl rfl) λa A↦?_
   refine qa (hK41 _ _ (wp_block (wsk fun K42 hK42 => wsk fun K43 hK43 => wrl ?_)))
   rcases tf ((p.d.k == 2)) with hb44 | hb44
   ·
    have hb44' := eq_of_beq hb44
    refine sdo (v := .bool true) A (qb rfl rfl (fun w => (ql w).trans (by rw [hb44]))) λa A↦?_
    refine sda A λa A↦?_
    refine qa (hK43 _ _ (wp_cond_true (A.ev rfl) ?_))
    refine wp_skip (hK42 _ _ (wp_cond_true (A.ev rfl) ?_))
    refine wsk fun K45 hK45 => wrl (sdo (v := .pointer (some ⟨g2, 1, none⟩)) A (qe EqB_fld_30_1 rfl rfl) λa A↦?_)
    refine sdo A (qm M EqB_is1_3 rfl 1 rfl rfl) λa A↦?_
    refine sdo (v := .pointer (some ⟨g4, 1, none⟩)) A (qe EqB_fld_30_1 rfl rfl) λa A↦?_
    refine sdo A (qm M EqB_is1_3 rfl 0 rfl rfl) λa A↦?_
    refine qi A rfl rfl rfl (qf rfl rfl (fun w => by kernel_rfl)) (uz) ?_
    rintro _ w47 ⟨rfl, hb46⟩
    replace M := M.call hb46
    refine ⟨_, rfl, ?_⟩
    intro a A
    refine sda A λa A↦?_
    refine qa (hK45 _ _ (wp_ret (hret _ _ (en1 A rfl (qh rfl) ?_))))
    exact ⟨by
     rw [hin9, ye gp gr (by omega) (by omega)]
     repeat (first | rw [if_pos (by omega)] | rw [if_neg (by omega)]), M.bel⟩
   ·
    have hb44' := ne_of_beq_false hb44
    refine sdo (v := .bool false) A (qb rfl rfl (fun w => (ql w).trans (by rw [hb44]))) λa A↦?_
    refine sda A λa A↦?_
    refine qa (hK43 _ _ (wp_cond_false (A.ev rfl) ?_))
    refine wrl ?_
    rcases tf ((p.d.k == 4)) with hb48 | hb48
    ·
     have hb48' := eq_of_beq hb48
     refine sdo (v := .bool true) A (qb rfl rfl (fun w => (ql w).trans (by rw [hb48]))) λa A↦?_
     refine sda A λa A↦?_
     refine qa (hK42 _ _ (wp_cond_true (A.ev rfl) ?_))
     refine wsk fun K49 hK49 => wrl (sdo (v := .pointer (some ⟨g2, 1, none⟩)) A (qe EqB_fld_30_1 rfl rfl) λa A↦?_)
     refine sdo A (qm M EqB_is1_3 rfl 1 rfl rfl) λa A↦?_
     refine sdo (v := .pointer (some ⟨g4, 1, none⟩)) A (qe EqB_fld_30_1 rfl rfl) λa A↦?_
     refine sdo A (qm M EqB_is1_3 rfl 0 rfl rfl) λa A↦?_
     refine qi A rfl rfl rfl (qf rfl rfl (fun w => by kernel_rfl)) (uz) ?_
     rintro _ w51 ⟨rfl, hb50⟩
     replace M := M.call hb50
     refine ⟨_, rfl, ?_⟩
     intro a A
     refine sda A λa A↦?_
     refine qa (hK49 _ _ (wp_ret (hret _ _ (en1 A rfl (qh rfl) ?_))))
     exact ⟨by
      rw [hin9, ye gp gr (by omega) (by omega)]
      repeat (first | rw [if_pos (by omega)] | rw [if_neg (by omega)]), M.bel⟩
    ·
     have hb48' := ne_of_beq_false hb48
     refine sdo (v := .bool false) A (qb rfl rfl (fun w => (ql w).trans (by rw [hb48]))) λa A↦?_
     refine sda A λa A↦?_
     refine qa (hK42 _ _ (wp_cond_false (A.ev rfl) ?_))
     refine wsk fun K52 hK52 => wrl ?_
     rcases tf ((p.d.k == 3)) with hb53 | hb53
     ·
      have hb53' := eq_of_beq hb53
      refine sdo (v := .bool true) A (qb rfl rfl (fun w => (ql w).trans (by rw [hb53]))) λa A↦?_
      refine sda A λa A↦?_
      refine qa (hK52 _ _ (wp_cond_true (A.ev rfl) ?_))
      refine wsk fun K54 hK54 => wrl (sdo (v := .pointer (some ⟨g2, 2, none⟩)) A (qe EqB_fld_30_2 rfl rfl) λa A↦?_)
      refine sdo A (zf M EqB_isS_26 rfl 1 rfl (cs := [.bool p.d.y.q.b1, .slice p.d.y.o1 p.d.y.q.t1.length p.d.y.c1, .slice p.d.y.o2 p.d.y.q.q1.length p.d.y.c2, .bool p.d.y.q.b2, .slice p.d.y.o3 p.d.y.q.t2.length p.d.y.c3, .slice p.d.y.o4 p.d.y.q.q2.length p.d.y.c4]) rfl rfl) λa A↦?_
      refine sdo (v := .pointer (some ⟨g4, 2, none⟩)) A (qe EqB_fld_30_2 rfl rfl) λa A↦?_
      refine sdo A (zf M EqB_isS_26 rfl 0 rfl (cs := [.bool r.d.y.q.b1, .slice r.d.y.o1 r.d.y.q.t1.length r.d.y.c1, .slice r.d.y.o2 r.d.y.q.q1.length r.d.y.c2, .bool r.d.y.q.b2, .slice r.d.y.o3 r.d.y.q.t2.length r.d.y.c3, .slice r.d.y.o4 r.d.y.q.q2.length r.d.y.c4]) rfl rfl) λa A↦?_
      refine qi A rfl rfl rfl (qf rfl rfl (fun w => by kernel_rfl)) (ordQ_any (y := p.d.y) (z := r.d.y) (Nu.below (Dt.okT hp).1.num M.bel) (Nu.below (Dt.okT hr).1.num M.bel) ((jn gp).2.1 (by omega)) ((jn gr).2.1 (by omega))) ?_
      rintro _ w55 ⟨rfl, hbn⟩
      replace M := M.call hbn
      refine ⟨_, rfl, ?_⟩
      intro a A
      refine sda A λa A↦?_
      refine qa (hK54 _ _ (wp_ret (hret _ _ (en1 A rfl (qh rfl) ?_))))
      exact ⟨by
       rw [hin9, ye gp gr (by omega) (by omega)]
       repeat (first | rw [if_pos (by omega)] | rw [if_neg (by omega)]), M.bel⟩
     ·
      have hb53' := ne_of_beq_false hb53
      refine sdo (v := .bool false) A (qb rfl rfl (fun w => (ql w).trans (by rw [hb53]))) λa A↦?_
      refine sda A λa A↦?_
      refine qa (hK52 _ _ (wp_cond_false (A.ev rfl) ?_))
      refine wsk fun K56 hK56 => wsk fun K57 hK57 => wrl ?_
      rcases tf ((p.d.k == 5)) with hb58 | hb58
      ·
       have hb58' := eq_of_beq hb58
       refine sdo (v := .bool true) A (qb rfl rfl (fun w => (ql w).trans (by rw [hb58]))) λa A↦?_
       refine sda A λa A↦?_
       refine qa (hK57 _ _ (wp_cond_true (A.ev rfl) ?_))
       refine wp_skip (hK56 _ _ (wp_cond_true (A.ev rfl) ?_))
       refine wsk fun K59 hK59 => wrl (sdo (v := .pointer (some ⟨g2, 8, none⟩)) A (qe EqB_fld_30_3 rfl rfl) λa A↦?_)
       refine sdo A (qm M EqB_is1_9 rfl 1 rfl rfl) λa A↦?_
       refine sdo (v := .pointer (some ⟨g4, 8, none⟩)) A (qe EqB_fld_30_3 rfl rfl) λa A↦?_
       refine sdo A (qm M EqB_is1_9 rfl 0 rfl rfl) λa A↦?_
       refine qi A rfl rfl rfl (qf rfl rfl (fun w => by kernel_rfl)) (qja) ?_
       rintro _ w61 ⟨rfl, hb60⟩
       replace M := M.call hb60
       refine ⟨_, rfl, ?_⟩
       intro a A
       refine sda A λa A↦?_
       refine qa (hK59 _ _ (wp_ret (hret _ _ (en1 A rfl (qh rfl) ?_))))
       exact ⟨by
        rw [hin9, ye gp gr (by omega) (by omega)]
        repeat (first | rw [if_pos (by omega)] | rw [if_neg (by omega)]), M.bel⟩
      ·
       have hb58' := ne_of_beq_false hb58
       refine sdo (v := .bool false) A (qb rfl rfl (fun w => (ql w).trans (by rw [hb58]))) λa A↦?_
       refine sda A λa A↦?_
       refine qa (hK57 _ _ (wp_cond_false (A.ev rfl) ?_))
       refine wsk fun K62 hK62 => wrl ?_
       rcases tf ((p.d.k == 6)) with hb63 | hb63
       ·
        have hb63' := eq_of_beq hb63
        refine sdo (v := .bool true) A (qb rfl rfl (fun w => (ql w).trans (by rw [hb63]))) λa A↦?_
        refine sda A λa A↦?_
        refine qa (hK62 _ _ (wp_cond_true (A.ev rfl) ?_))
        refine wp_skip (hK56 _ _ (wp_cond_true (A.ev rfl) ?_))
        refine wsk fun K64 hK64 => wrl (sdo (v := .pointer (some ⟨g2, 8, none⟩)) A (qe EqB_fld_30_3 rfl rfl) λa A↦?_)
        refine sdo A (qm M EqB_is1_9 rfl 1 rfl rfl) λa A↦?_
        refine sdo (v := .pointer (some ⟨g4, 8, none⟩)) A (qe EqB_fld_30_3 rfl rfl) λa A↦?_
        refine sdo A (qm M EqB_is1_9 rfl 0 rfl rfl) λa A↦?_
        refine qi A rfl rfl rfl (qf rfl rfl (fun w => by kernel_rfl)) (qja) ?_
        rintro _ w66 ⟨rfl, hb65⟩
        replace M := M.call hb65
        refine ⟨_, rfl, ?_⟩
        intro a A
        refine sda A λa A↦?_
        refine qa (hK64 _ _ (wp_ret (hret _ _ (en1 A rfl (qh rfl) ?_))))
        exact ⟨by
         rw [hin9, ye gp gr (by omega) (by omega)]
         repeat (first | rw [if_pos (by omega)] | rw [if_neg (by omega)]), M.bel⟩
       ·
        have hb63' := ne_of_beq_false hb63
        refine sdo (v := .bool false) A (qb rfl rfl (fun w => (ql w).trans (by rw [hb63]))) λa A↦?_
        refine sda A λa A↦?_
        refine qa (hK62 _ _ (wp_cond_false (A.ev rfl) ?_))
        refine wrl ?_
        rcases tf ((p.d.k == 11)) with hb67 | hb67
        ·
         have hb67' := eq_of_beq hb67
         refine sdo (v := .bool true) A (qb rfl rfl (fun w => (ql w).trans (by rw [hb67]))) λa A↦?_
         refine sda A λa A↦?_
         refine qa (hK56 _ _ (wp_cond_true (A.ev rfl) ?_))
         refine wsk fun K68 hK68 => wrl (sdo (v := .pointer (some ⟨g2, 8, none⟩)) A (qe EqB_fld_30_3 rfl rfl) λa A↦?_)
         refine sdo A (qm M EqB_is1_9 rfl 1 rfl rfl) λa A↦?_
         refine sdo (v := .pointer (some ⟨g4, 8, none⟩)) A (qe EqB_fld_30_3 rfl rfl) λa A↦?_
         refine sdo A (qm M EqB_is1_9 rfl 0 rfl rfl) λa A↦?_
         refine qi A rfl rfl rfl (qf rfl rfl (fun w => by kernel_rfl)) (qja) ?_
         rintro _ w70 ⟨rfl, hb69⟩
         replace M := M.call hb69
         refine ⟨_, rfl, ?_⟩
         intro a A
         refine sda A λa A↦?_
         refine qa (hK68 _ _ (wp_ret (hret _ _ (en1 A rfl (qh rfl) ?_))))
         exact ⟨by
          rw [hin9, ye gp gr (by omega) (by omega)]
          repeat (first | rw [if_pos (by omega)] | rw [if_neg (by omega)]), M.bel⟩
        ·
         have hb67' := ne_of_beq_false hb67
         refine sdo (v := .bool false) A (qb rfl rfl (fun w => (ql w).trans (by rw [hb67]))) λa A↦?_
         refine sda A λa A↦?_
         refine qa (hK56 _ _ (wp_cond_false (A.ev rfl) ?_))
         refine wsk fun K71 hK71 => wrl ?_
         rcases tf ((p.d.k == 7)) with hb72 | hb72
         ·
          have hb72' := eq_of_beq hb72
          refine sdo (v := .bool true) A (qb rfl rfl (fun w => (ql w).trans (by rw [hb72]))) λa A↦?_
          refine sda A λa A↦?_
          refine qa (hK71 _ _ (wp_cond_true (A.ev rfl) ?_))
          refine wsk fun K73 hK73 => wrl (sdo (v := .pointer (some ⟨g2, 9, none⟩)) A (qe EqB_fld_30_4 rfl rfl) λa A↦?_)
          refine sdo A (qm M EqB_is1_27 rfl 1 rfl rfl) λa A↦?_
          refine sdo (v := .pointer (some ⟨g4, 9, none⟩)) A (qe EqB_fld_30_4 rfl rfl) λa A↦?_
          refine sdo A (qm M EqB_is1_27 rfl 0 rfl rfl) λa A↦?_
          refine qi A rfl rfl rfl (qf rfl rfl (fun w => by kernel_rfl)) (bcmp_any ((Dt.okT hp).1.raw.below M.bel) ((Dt.okT hr).1.raw.below M.bel)) ?_
          rintro _ w75 ⟨rfl, hb74⟩
          replace M := M.call hb74
          refine ⟨_, rfl, ?_⟩
          intro a A
          refine sda A λa A↦?_
          refine qa (hK73 _ _ (wp_ret (hret _ _ (en1 A rfl (qh rfl) ?_))))
          exact ⟨by
           rw [hin9, ye gp gr (by omega) (by omega)]
           repeat (first | rw [if_pos (by omega)] | rw [if_neg (by omega)]), M.bel⟩
         ·
          have hb72' := ne_of_beq_false hb72
          refine sdo (v := .bool false) A (qb rfl rfl (fun w => (ql w).trans (by rw [hb72]))) λa A↦?_
          refine sda A λa A↦?_
          refine qa (hK71 _ _ (wp_cond_false (A.ev rfl) ?_))
          refine wsk fun K76 hK76 => wrl ?_
          rcases tf ((p.d.k == 9)) with hb77 | hb77
          ·
           have hb77' := eq_of_beq hb77
           refine sdo (v := .bool true) A (qb rfl rfl (fun w => (ql w).trans (by rw [hb77]))) λa A↦?_
           refine sda A λa A↦?_
           refine qa (hK76 _ _ (wp_cond_true (A.ev rfl) ?_))
           refine wsk fun K78 hK78 => wrl (sdo (v := .pointer (some ⟨g2, 10, none⟩)) A (qe EqB_fld_30_5 rfl rfl) λa A↦?_)
           refine sdo A (qm M EqB_is1_28 rfl 1 rfl rfl) λa A↦?_
           refine sdo (v := .pointer (some ⟨g4, 10, none⟩)) A (qe EqB_fld_30_5 rfl rfl) λa A↦?_
           refine sdo A (qm M EqB_is1_28 rfl 0 rfl rfl) λa A↦?_
           refine qi A rfl rfl rfl (qf rfl rfl (fun w => by kernel_rfl)) (vec_any ih (Dt.keep M.bel _ hp) (Dt.keep M.bel _ hr) gp gr (by omega)) ?_
           rintro _ w80 ⟨rfl, hb79⟩
           replace M := M.call hb79
           refine ⟨_, rfl, ?_⟩
           intro a A
           refine sda A λa A↦?_
           refine qa (hK78 _ _ (wp_ret (hret _ _ (en1 A rfl (qh rfl) ?_))))
           exact ⟨by
            rw [hin9, ye gp gr (by omega) (by omega)]
            repeat (first | rw [if_pos (by omega)] | rw [if_neg (by omega)]), M.bel⟩
          ·
           have hb77' := ne_of_beq_false hb77
           refine sdo (v := .bool false) A (qb rfl rfl (fun w => (ql w).trans (by rw [hb77]))) λa A↦?_
           refine sda A λa A↦?_
           refine qa (hK76 _ _ (wp_cond_false (A.ev rfl) ?_))
           refine wp_skip (hK40 _ _ (wsk fun K81 hK81 => wrl (sda A λa A↦?_)))
           refine qa (hK81 _ _ (wp_ret (hret _ _ (en1 A rfl (qh rfl) ?_))))
           exact ⟨by
            rw [hin9, ye gp gr (by omega) (by omega)]
            repeat (first | rw [if_pos (by omega)] | rw [if_neg (by omega)]), M.bel⟩
theorem qcc : ∀ n, Orders n
 | 0 => fun h => absurd h (Nat.not_lt_zero _)
 | n + 1 => orders_step (qcc n)
theorem EqC_isS_30 : IsS Tryz.prog 30 11 := ⟨⟨_, Tryz.underlying30⟩, by kernel_rfl⟩
theorem qdh {w : World} {t u : Dt} (ht : t.rd w) (hu : u.rd w) (hT : Tabs8 w) : Calls Tryz.prog 13 #[.agg (t.d.cells t.ts.length).toArray, .agg (u.d.cells u.ts.length).toArray] w fun e w' => e = .returned (.bool (jl zy t.tr && jl zy u.tr : Bool)) ∧ Below w.heap.size w w' := by
 have M : Mg w w ([]) := Mg.start w
 refine ze (l := [(0, .agg (t.d.cells t.ts.length).toArray), (1, .agg (u.d.cells u.ts.length).toArray)]) Tryz.func13 rfl Tryz.ntmps13 rfl rfl ?_
 intro Q hret hnorm hP a A
 refine wsk fun K1 hK1 => wrl (xe (vs := [.int .i64 t.d.k, .int .i64 t.d.n, .bool t.d.y.q.b1, .slice t.d.y.o1 t.d.y.q.t1.length t.d.y.c1, .slice t.d.y.o2 t.d.y.q.q1.length t.d.y.c2, .bool t.d.y.q.b2, .slice t.d.y.o3 t.d.y.q.t2.length t.d.y.c3, .slice t.d.y.o4 t.d.y.q.q2.length t.d.y.c4, .string t.d.s, .slice t.d.ro t.d.rl.length t.d.rc, .slice t.d.lo t.ts.length t.d.lc]) (t := 30) A M rfl rfl rfl pg (qx rfl rfl) (by decide) ?_)
 intro g2 w3 M a A
 refine xe (vs := [.int .i64 u.d.k, .int .i64 u.d.n, .bool u.d.y.q.b1, .slice u.d.y.o1 u.d.y.q.t1.length u.d.y.c1, .slice u.d.y.o2 u.d.y.q.q1.length u.d.y.c2, .bool u.d.y.q.b2, .slice u.d.y.o3 u.d.y.q.t2.length u.d.y.c3, .slice u.d.y.o4 u.d.y.q.q2.length u.d.y.c4, .string u.d.s, .slice u.d.ro u.d.rl.length u.d.rc, .slice u.d.lo u.ts.length u.d.lc]) (t := 30) A M rfl rfl rfl pg (qx rfl rfl) (by decide) ?_
 intro g4 w5 M a A
 refine sda A λa A↦?_
 refine qa (hK1 _ _ (wsk fun K6 hK6 => wrl (sdo A (zf M EqC_isS_30 rfl 1 rfl (cs := [.int .i64 t.d.k, .int .i64 t.d.n, .bool t.d.y.q.b1, .slice t.d.y.o1 t.d.y.q.t1.length t.d.y.c1, .slice t.d.y.o2 t.d.y.q.q1.length t.d.y.c2, .bool t.d.y.q.b2, .slice t.d.y.o3 t.d.y.q.t2.length t.d.y.c3, .slice t.d.y.o4 t.d.y.q.q2.length t.d.y.c4, .string t.d.s, .slice t.d.ro t.d.rl.length t.d.rc, .slice t.d.lo t.ts.length t.d.lc]) rfl rfl) λa A↦?_)))
 rcases tf (jl zy t.tr) with hb7 | hb7
 ·
  refine qi A rfl rfl rfl (qf rfl rfl (fun w => by kernel_rfl)) ((hb7 ▸ sound_any (t := t) (Dt.keep M.bel _ ht) (hT.below M.bel))) ?_
  rintro _ w9 ⟨rfl, hb8⟩
  replace M := M.call hb8
  refine ⟨_, rfl, ?_⟩
  intro a A
  refine sdm A λa A↦?_
  refine sdo A (zf M EqC_isS_30 rfl 0 rfl (cs := [.int .i64 u.d.k, .int .i64 u.d.n, .bool u.d.y.q.b1, .slice u.d.y.o1 u.d.y.q.t1.length u.d.y.c1, .slice u.d.y.o2 u.d.y.q.q1.length u.d.y.c2, .bool u.d.y.q.b2, .slice u.d.y.o3 u.d.y.q.t2.length u.d.y.c3, .slice u.d.y.o4 u.d.y.q.q2.length u.d.y.c4, .string u.d.s, .slice u.d.ro u.d.rl.length u.d.rc, .slice u.d.lo u.ts.length u.d.lc]) rfl rfl) λa A↦?_
  rcases tf (jl zy u.tr) with hb10 | hb10
  ·
   refine qi A rfl rfl rfl (qf rfl rfl (fun w => by kernel_rfl)) ((hb10 ▸ sound_any (t := u) (Dt.keep M.bel _ hu) (hT.below M.bel))) ?_
   rintro _ w12 ⟨rfl, hb11⟩
   replace M := M.call hb11
   refine ⟨_, rfl, ?_⟩
   intro a A
   refine sdk (v := .bool true) A λa A↦?_
   refine sda A λa A↦?_
   refine qa (hK6 _ _ (wp_ret (hret _ _ (en1 A rfl (qh rfl) ?_))))
   exact ⟨by simp_all, M.bel⟩
  ·
   refine qi A rfl rfl rfl (qf rfl rfl (fun w => by kernel_rfl)) ((hb10 ▸ sound_any (t := u) (Dt.keep M.bel _ hu) (hT.below M.bel))) ?_
   rintro _ w14 ⟨rfl, hb13⟩
   replace M := M.call hb13
   refine ⟨_, rfl, ?_⟩
   intro a A
   refine sdk (v := .bool false) A λa A↦?_
   refine sda A λa A↦?_
   refine qa (hK6 _ _ (wp_ret (hret _ _ (en1 A rfl (qh rfl) ?_))))
   exact ⟨by simp_all, M.bel⟩
 ·
  refine qi A rfl rfl rfl (qf rfl rfl (fun w => by kernel_rfl)) ((hb7 ▸ sound_any (t := t) (Dt.keep M.bel _ ht) (hT.below M.bel))) ?_
  rintro _ w16 ⟨rfl, hb15⟩
  replace M := M.call hb15
  refine ⟨_, rfl, ?_⟩
  intro a A
  refine sdm A λa A↦?_
  iterate 2 refine qk A rfl rfl rfl λa A↦?_
  refine sdk (v := .bool false) A λa A↦?_
  refine sda A λa A↦?_
  refine qa (hK6 _ _ (wp_ret (hret _ _ (en1 A rfl (qh rfl) ?_))))
  exact ⟨by simp_all, M.bel⟩
theorem yj {w : World} {t u : Dt} (ht : t.rd w) (hu : u.rd w) (hT : Tabs8 w) : Calls Tryz.prog 7 #[.agg (t.d.cells t.ts.length).toArray, .agg (u.d.cells u.ts.length).toArray] w fun e w' => e = .returned (.bool (qeg t.tr u.tr)) ∧ Below w.heap.size w w' := by
 have M : Mg w w ([]) := Mg.start w
 refine ze (l := [(0, .agg (t.d.cells t.ts.length).toArray), (1, .agg (u.d.cells u.ts.length).toArray)]) Tryz.func7 rfl Tryz.ntmps7 rfl rfl ?_
 intro Q hret hnorm hP a A
 refine wsk fun K1 hK1 => wrl (xe (vs := [.int .i64 t.d.k, .int .i64 t.d.n, .bool t.d.y.q.b1, .slice t.d.y.o1 t.d.y.q.t1.length t.d.y.c1, .slice t.d.y.o2 t.d.y.q.q1.length t.d.y.c2, .bool t.d.y.q.b2, .slice t.d.y.o3 t.d.y.q.t2.length t.d.y.c3, .slice t.d.y.o4 t.d.y.q.q2.length t.d.y.c4, .string t.d.s, .slice t.d.ro t.d.rl.length t.d.rc, .slice t.d.lo t.ts.length t.d.lc]) (t := 30) A M rfl rfl rfl pg (qx rfl rfl) (by decide) ?_)
 intro g2 w3 M a A
 refine xe (vs := [.int .i64 u.d.k, .int .i64 u.d.n, .bool u.d.y.q.b1, .slice u.d.y.o1 u.d.y.q.t1.length u.d.y.c1, .slice u.d.y.o2 u.d.y.q.q1.length u.d.y.c2, .bool u.d.y.q.b2, .slice u.d.y.o3 u.d.y.q.t2.length u.d.y.c3, .slice u.d.y.o4 u.d.y.q.q2.length u.d.y.c4, .string u.d.s, .slice u.d.ro u.d.rl.length u.d.rc, .slice u.d.lo u.ts.length u.d.lc]) (t := 30) A M rfl rfl rfl pg (qx rfl rfl) (by decide) ?_
 intro g4 w5 M a A
 refine sda A λa A↦?_
 refine qa (hK1 _ _ (wsk fun K6 hK6 => wrl (sdo A (zf M EqC_isS_30 rfl 1 rfl (cs := [.int .i64 t.d.k, .int .i64 t.d.n, .bool t.d.y.q.b1, .slice t.d.y.o1 t.d.y.q.t1.length t.d.y.c1, .slice t.d.y.o2 t.d.y.q.q1.length t.d.y.c2, .bool t.d.y.q.b2, .slice t.d.y.o3 t.d.y.q.t2.length t.d.y.c3, .slice t.d.y.o4 t.d.y.q.q2.length t.d.y.c4, .string t.d.s, .slice t.d.ro t.d.rl.length t.d.rc, .slice t.d.lo t.ts.length t.d.lc]) rfl rfl) λa A↦?_)))
 refine sdo A (zf M EqC_isS_30 rfl 0 rfl (cs := [.int .i64 u.d.k, .int .i64 u.d.n, .bool u.d.y.q.b1, .slice u.d.y.o1 u.d.y.q.t1.length u.d.y.c1, .slice u.d.y.o2 u.d.y.q.q1.length u.d.y.c2, .bool u.d.y.q.b2, .slice u.d.y.o3 u.d.y.q.t2.length u.d.y.c3, .slice u.d.y.o4 u.d.y.q.q2.length u.d.y.c4, .string u.d.s, .slice u.d.ro u.d.rl.length u.d.rc, .slice u.d.lo u.ts.length u.d.lc]) rfl rfl) λa A↦?_
 rcases tf ((jl zy t.tr && jl zy u.tr)) with hb7 | hb7
 ·
  refine qi A rfl rfl rfl (qf rfl rfl (fun w => by kernel_rfl)) ((hb7 ▸ qdh (Dt.keep M.bel _ ht) (Dt.keep M.bel _ hu) (hT.below M.bel))) ?_
  rintro _ w9 ⟨rfl, hb8⟩
  replace M := M.call hb8
  refine ⟨_, rfl, ?_⟩
  intro a A
  refine sdm A λa A↦?_
  refine sdo A (zf M EqC_isS_30 rfl 1 rfl (cs := [.int .i64 t.d.k, .int .i64 t.d.n, .bool t.d.y.q.b1, .slice t.d.y.o1 t.d.y.q.t1.length t.d.y.c1, .slice t.d.y.o2 t.d.y.q.q1.length t.d.y.c2, .bool t.d.y.q.b2, .slice t.d.y.o3 t.d.y.q.t2.length t.d.y.c3, .slice t.d.y.o4 t.d.y.q.q2.length t.d.y.c4, .string t.d.s, .slice t.d.ro t.d.rl.length t.d.rc, .slice t.d.lo t.ts.length t.d.lc]) rfl rfl) λa A↦?_
  refine sdo A (zf M EqC_isS_30 rfl 0 rfl (cs := [.int .i64 u.d.k, .int .i64 u.d.n, .bool u.d.y.q.b1, .slice u.d.y.o1 u.d.y.q.t1.length u.d.y.c1, .slice u.d.y.o2 u.d.y.q.q1.length u.d.y.c2, .bool u.d.y.q.b2, .slice u.d.y.o3 u.d.y.q.t2.length u.d.y.c3, .slice u.d.y.o4 u.d.y.q.q2.length u.d.y.c4, .string u.d.s, .slice u.d.ro u.d.rl.length u.d.rc, .slice u.d.lo u.ts.length u.d.lc]) rfl rfl) λa A↦?_
  refine qi A rfl rfl rfl (qf rfl rfl (fun w => by kernel_rfl)) (qcc (t.tr.bulk + 1) (Nat.lt_succ_self _) (Dt.keep M.bel _ ht) (Dt.keep M.bel _ hu) (kp ht (qdf hb7).1) (kp hu (qdf hb7).2)) ?_
  rintro _ w11 ⟨rfl, hb10⟩
  replace M := M.call hb10
  refine ⟨_, rfl, ?_⟩
  intro a A
  rcases tf ((xz t.tr u.tr == 0)) with hb12 | hb12
  ·
   have hb12' := eq_of_beq hb12
   refine sdo (v := .bool true) A (qb rfl rfl (fun w => (ql w).trans (by rw [hb12]))) λa A↦?_
   refine sdk (v := .bool true) A λa A↦?_
   refine sda A λa A↦?_
   refine qa (hK6 _ _ (wp_ret (hret _ _ (en1 A rfl (qh rfl) ?_))))
   exact ⟨by unfold qeg; simp_all, M.bel⟩
  ·
   have hb12' := ne_of_beq_false hb12
   refine sdo (v := .bool false) A (qb rfl rfl (fun w => (ql w).trans (by rw [hb12]))) λa A↦?_
   refine sdk (v := .bool false) A λa A↦?_
   refine sda A λa A↦?_
   refine qa (hK6 _ _ (wp_ret (hret _ _ (en1 A rfl (qh rfl) ?_))))
   exact ⟨by unfold qeg; simp_all, M.bel⟩
 ·
  refine qi A rfl rfl rfl (qf rfl rfl (fun w => by kernel_rfl)) ((hb7 ▸ qdh (Dt.keep M.bel _ ht) (Dt.keep M.bel _ hu) (hT.below M.bel))) ?_
  rintro _ w14 ⟨rfl, hb13⟩
  replace M := M.call hb13
  refine ⟨_, rfl, ?_⟩
  intro a A
  refine sdm A λa A↦?_
  iterate 4 refine qk A rfl rfl rfl λa A↦?_
  refine sdk (v := .bool false) A λa A↦?_
  refine sda A λa A↦?_
  refine qa (hK6 _ _ (wp_ret (hret _ _ (en1 A rfl (qh rfl) ?_))))
  exact ⟨by unfold qeg; simp_all, M.bel⟩
theorem cmp_any {w : World} {t u : Dt} (ht : t.rd w) (hu : u.rd w) (hT : Tabs8 w) : Calls Tryz.prog 9 #[.agg (t.d.cells t.ts.length).toArray, .agg (u.d.cells u.ts.length).toArray] w fun e w' => e = .returned (.int .i64 (qgg t.tr u.tr)) ∧ Below w.heap.size w w' := by
 have M : Mg w w ([]) := Mg.start w
 refine ze (l := [(0, .agg (t.d.cells t.ts.length).toArray), (1, .agg (u.d.cells u.ts.length).toArray)]) Tryz.func9 rfl Tryz.ntmps9 rfl rfl ?_
 intro Q hret hnorm hP a A
 refine wsk fun K1 hK1 => wrl (xe (vs := [.int .i64 t.d.k, .int .i64 t.d.n, .bool t.d.y.q.b1, .slice t.d.y.o1 t.d.y.q.t1.length t.d.y.c1, .slice t.d.y.o2 t.d.y.q.q1.length t.d.y.c2, .bool t.d.y.q.b2, .slice t.d.y.o3 t.d.y.q.t2.length t.d.y.c3, .slice t.d.y.o4 t.d.y.q.q2.length t.d.y.c4, .string t.d.s, .slice t.d.ro t.d.rl.length t.d.rc, .slice t.d.lo t.ts.length t.d.lc]) (t := 30) A M rfl rfl rfl pg (qx rfl rfl) (by decide) ?_)
 intro g2 w3 M a A
 refine xe (vs := [.int .i64 u.d.k, .int .i64 u.d.n, .bool u.d.y.q.b1, .slice u.d.y.o1 u.d.y.q.t1.length u.d.y.c1, .slice u.d.y.o2 u.d.y.q.q1.length u.d.y.c2, .bool u.d.y.q.b2, .slice u.d.y.o3 u.d.y.q.t2.length u.d.y.c3, .slice u.d.y.o4 u.d.y.q.q2.length u.d.y.c4, .string u.d.s, .slice u.d.ro u.d.rl.length u.d.rc, .slice u.d.lo u.ts.length u.d.lc]) (t := 30) A M rfl rfl rfl pg (qx rfl rfl) (by decide) ?_
 intro g4 w5 M a A
 refine sda A λa A↦?_
 refine qa (hK1 _ _ (wsk fun K6 hK6 => wsk fun K7 hK7 => wrl (sdo A (zf M EqC_isS_30 rfl 1 rfl (cs := [.int .i64 t.d.k, .int .i64 t.d.n, .bool t.d.y.q.b1, .slice t.d.y.o1 t.d.y.q.t1.length t.d.y.c1, .slice t.d.y.o2 t.d.y.q.q1.length t.d.y.c2, .bool t.d.y.q.b2, .slice t.d.y.o3 t.d.y.q.t2.length t.d.y.c3, .slice t.d.y.o4 t.d.y.q.q2.length t.d.y.c4, .string t.d.s, .slice t.d.ro t.d.rl.length t.d.rc, .slice t.d.lo t.ts.length t.d.lc]) rfl rfl) λa A↦?_)))
 refine sdo A (zf M EqC_isS_30 rfl 0 rfl (cs := [.int .i64 u.d.k, .int .i64 u.d.n, .bool u.d.y.q.b1, .slice u.d.y.o1 u.d.y.q.t1.length u.d.y.c1, .slice u.d.y.o2 u.d.y.q.q1.length u.d.y.c2, .bool u.d.y.q.b2, .slice u.d.y.o3 u.d.y.q.t2.length u.d.y.c3, .slice u.d.y.o4 u.d.y.q.q2.length u.d.y.c4, .string u.d.s, .slice u.d.ro u.d.rl.length u.d.rc, .slice u.d.lo u.ts.length u.d.lc]) rfl rfl) λa A↦?_
 rcases tf ((jl zy t.tr && jl zy u.tr)) with hb8 | hb8
 ·
  refine qi A rfl rfl rfl (qf rfl rfl (fun w => by kernel_rfl)) ((hb8 ▸ qdh (Dt.keep M.bel _ ht) (Dt.keep M.bel _ hu) (hT.below M.bel))) ?_
  rintro _ w10 ⟨rfl, hb9⟩
  replace M := M.call hb9
  refine ⟨_, rfl, ?_⟩
  intro a A
  refine sdo (v := .bool false) A (zl rfl zu) λa A↦?_
  refine qa (hK7 _ _ (wp_cond_false (A.ev rfl) ?_))
  refine wp_skip (hK6 _ _ (wsk fun K11 hK11 => wrl (sdo A (zf M EqC_isS_30 rfl 1 rfl (cs := [.int .i64 t.d.k, .int .i64 t.d.n, .bool t.d.y.q.b1, .slice t.d.y.o1 t.d.y.q.t1.length t.d.y.c1, .slice t.d.y.o2 t.d.y.q.q1.length t.d.y.c2, .bool t.d.y.q.b2, .slice t.d.y.o3 t.d.y.q.t2.length t.d.y.c3, .slice t.d.y.o4 t.d.y.q.q2.length t.d.y.c4, .string t.d.s, .slice t.d.ro t.d.rl.length t.d.rc, .slice t.d.lo t.ts.length t.d.lc]) rfl rfl) λa A↦?_)))
  refine sdo A (zf M EqC_isS_30 rfl 0 rfl (cs := [.int .i64 u.d.k, .int .i64 u.d.n, .bool u.d.y.q.b1, .slice u.d.y.o1 u.d.y.q.t1.length u.d.y.c1, .slice u.d.y.o2 u.d.y.q.q1.length u.d.y.c2, .bool u.d.y.q.b2, .slice u.d.y.o3 u.d.y.q.t2.length u.d.y.c3, .slice u.d.y.o4 u.d.y.q.q2.length u.d.y.c4, .string u.d.s, .slice u.d.ro u.d.rl.length u.d.rc, .slice u.d.lo u.ts.length u.d.lc]) rfl rfl) λa A↦?_
  refine qi A rfl rfl rfl (qf rfl rfl (fun w => by kernel_rfl)) (qcc (t.tr.bulk + 1) (Nat.lt_succ_self _) (Dt.keep M.bel _ ht) (Dt.keep M.bel _ hu) (kp ht (qdf hb8).1) (kp hu (qdf hb8).2)) ?_
  rintro _ w13 ⟨rfl, hb12⟩
  replace M := M.call hb12
  refine ⟨_, rfl, ?_⟩
  intro a A
  refine sda A λa A↦?_
  refine qa (hK11 _ _ (wp_ret (hret _ _ (en1 A rfl (qh rfl) ?_))))
  exact ⟨by unfold qgg; rw [if_pos (qdf hb8)], M.bel⟩
 ·
  refine qi A rfl rfl rfl (qf rfl rfl (fun w => by kernel_rfl)) ((hb8 ▸ qdh (Dt.keep M.bel _ ht) (Dt.keep M.bel _ hu) (hT.below M.bel))) ?_
  rintro _ w15 ⟨rfl, hb14⟩
  replace M := M.call hb14
  refine ⟨_, rfl, ?_⟩
  intro a A
  refine sdo (v := .bool true) A (zl rfl zu) λa A↦?_
  refine qa (hK7 _ _ (wp_cond_true (A.ev rfl) ?_))
  refine wsk fun K16 hK16 => wrl (sda A λa A↦?_)
  refine qa (hK16 _ _ (wp_ret (hret _ _ (en1 A rfl (qh rfl) ?_))))
  exact ⟨by unfold qgg; rw [if_neg (both_no hb8)], M.bel⟩
end Go.Proofs.YtabjlejolmmeeaaGreatDoor.G
namespace Go.Proofs.YtabjlejolmmeeaaGreatDoor
open Go.RowKit
set_option linter.unusedVariables false
set_option linter.unusedSimpArgs false
set_option maxRecDepth 100000
theorem EqO_fld_26_0 : FieldAt Tryz.prog 26 0 0 := ⟨_, _, Tryz.underlying26, rfl, rfl, by kernel_rfl⟩
theorem EqO_fld_26_1 : FieldAt Tryz.prog 26 1 3 := ⟨_, _, Tryz.underlying26, rfl, rfl, by kernel_rfl⟩
theorem EqO_isS_24 : IsS Tryz.prog 24 3 := ⟨⟨_, Tryz.underlying24⟩, by kernel_rfl⟩
theorem alikeQ_any {w : World} {p q : Q6} {a1 a2 a3 a4 : Option Addr} {ac1 ac2 ac3 ac4 : Nat} (ha : Nm w p a1 ac1 a2 ac2 a3 ac3 a4 ac4) (hl : LenQ p) {u1 u2 u3 u4 : Option Addr} {uc1 uc2 uc3 uc4 : Nat} (hu : Nm w q u1 uc1 u2 uc2 u3 uc3 u4 uc4) (hm : LenQ q) {r : Bool} (hr : (xv p.b1 p.t1 p.q1 q.b1 q.t1 q.q1 && xv p.b2 p.t2 p.q2 q.b2 q.t2 q.q2) = r) : Calls Tryz.prog 25 #[qbe p a1 ac1 a2 ac2 a3 ac3 a4 ac4, qbe q u1 uc1 u2 uc2 u3 uc3 u4 uc4] w fun e w' => e = .returned (.bool r) ∧ Below w.heap.size w w' := by
 have S : St w w [] [(u4, q.q2), (u3, q.t2), (u2, q.q1), (u1, q.t1), (a4, p.q2), (a3, p.t2), (a2, p.q1), (a1, p.t1)] [] := ((((((((St.start w).addR ha.s1.rd).addR ha.s2.rd).addR ha.s3.rd).addR ha.s4.rd).addR hu.s1.rd).addR hu.s2.rd).addR hu.s3.rd).addR hu.s4.rd
 refine ze (l := [(0, .agg #[.bool p.b1, .slice a1 p.t1.length ac1, .slice a2 p.q1.length ac2, .bool p.b2, .slice a3 p.t2.length ac3, .slice a4 p.q2.length ac4]), (1, .agg #[.bool q.b1, .slice u1 q.t1.length uc1, .slice u2 q.q1.length uc2, .bool q.b2, .slice u3 q.t2.length uc3, .slice u4 q.q2.length uc4])]) Tryz.func25 rfl Tryz.ntmps25 rfl rfl ?_
 intro Q hret hnorm hP a A
 refine wsk fun K1 hK1 => wrl (zh A S rfl rfl rfl pg (qx rfl rfl) rfl ?_)
 intro g2 w3 S a A
 refine zh A S rfl rfl rfl pg (qx rfl rfl) rfl ?_
 intro g4 w5 S a A
 refine sda A λa A↦?_
 refine qa (hK1 _ _ (wsk fun K6 hK6 => wrl (sdo (v := .pointer (some ⟨g2, 0, none⟩)) A (qe EqO_fld_26_0 rfl rfl) λa A↦?_)))
 refine sdo A (zj S EqO_isS_24 rfl 1 rfl (cs := [.bool p.b1, .slice a1 p.t1.length ac1, .slice a2 p.q1.length ac2]) rfl rfl) λa A↦?_
 refine sdo (v := .pointer (some ⟨g4, 0, none⟩)) A (qe EqO_fld_26_0 rfl rfl) λa A↦?_
 refine sdo A (zj S EqO_isS_24 rfl 0 rfl (cs := [.bool q.b1, .slice u1 q.t1.length uc1, .slice u2 q.q1.length uc2]) rfl rfl) λa A↦?_
 rcases tf (xv p.b1 p.t1 p.q1 q.b1 q.t1 q.q1) with hb7 | hb7
 ·
  refine qi A rfl rfl rfl (qf  rfl rfl (fun w => by kernel_rfl)) (yx ⟨(S.rd 7 rfl), ha.s1.nil, ha.s1.cap⟩ ⟨(S.rd 6 rfl), ha.s2.nil, ha.s2.cap⟩ ⟨(S.rd 3 rfl), hu.s1.nil, hu.s1.cap⟩ ⟨(S.rd 2 rfl), hu.s2.nil, hu.s2.cap⟩ hl.l1 hl.l2 hm.l1 hm.l2 hb7) ?_
  rintro _ w9 ⟨rfl, hb8⟩
  replace S := S.call hb8
  refine ⟨_, rfl, ?_⟩
  intro a A
  refine sdm A λa A↦?_
  refine sdo (v := .pointer (some ⟨g2, 3, none⟩)) A (qe EqO_fld_26_1 rfl rfl) λa A↦?_
  refine sdo A (zj S EqO_isS_24 rfl 1 rfl (cs := [.bool p.b2, .slice a3 p.t2.length ac3, .slice a4 p.q2.length ac4]) rfl rfl) λa A↦?_
  refine sdo (v := .pointer (some ⟨g4, 3, none⟩)) A (qe EqO_fld_26_1 rfl rfl) λa A↦?_
  refine sdo A (zj S EqO_isS_24 rfl 0 rfl (cs := [.bool q.b2, .slice u3 q.t2.length uc3, .slice u4 q.q2.length uc4]) rfl rfl) λa A↦?_
  rcases tf (xv p.b2 p.t2 p.q2 q.b2 q.t2 q.q2) with hb10 | hb10
  ·
   refine qi A rfl rfl rfl (qf  rfl rfl (fun w => by kernel_rfl)) (yx ⟨(S.rd 5 rfl), ha.s3.nil, ha.s3.cap⟩ ⟨(S.rd 4 rfl), ha.s4.nil, ha.s4.cap⟩ ⟨(S.rd 1 rfl), hu.s3.nil, hu.s3.cap⟩ ⟨(S.rd 0 rfl), hu.s4.nil, hu.s4.cap⟩ hl.l3 hl.l4 hm.l3 hm.l4 hb10) ?_
   rintro _ w12 ⟨rfl, hb11⟩
   replace S := S.call hb11
   refine ⟨_, rfl, ?_⟩
   intro a A
   refine sdk (v := .bool true) A λa A↦?_
   refine sda A λa A↦?_
   refine qa (hK6 _ _ (wp_ret (hret _ _ (en1 A rfl (qh rfl) ?_))))
   subst hr
   exact ⟨by rw [hb7, hb10]; try rfl, S.bel⟩
  ·
   refine qi A rfl rfl rfl (qf  rfl rfl (fun w => by kernel_rfl)) (yx ⟨(S.rd 5 rfl), ha.s3.nil, ha.s3.cap⟩ ⟨(S.rd 4 rfl), ha.s4.nil, ha.s4.cap⟩ ⟨(S.rd 1 rfl), hu.s3.nil, hu.s3.cap⟩ ⟨(S.rd 0 rfl), hu.s4.nil, hu.s4.cap⟩ hl.l3 hl.l4 hm.l3 hm.l4 hb10) ?_
   rintro _ w14 ⟨rfl, hb13⟩
   replace S := S.call hb13
   refine ⟨_, rfl, ?_⟩
   intro a A
   refine sdk (v := .bool false) A λa A↦?_
   refine sda A λa A↦?_
   refine qa (hK6 _ _ (wp_ret (hret _ _ (en1 A rfl (qh rfl) ?_))))
   subst hr
   exact ⟨by rw [hb7, hb10]; try rfl, S.bel⟩
 ·
  refine qi A rfl rfl rfl (qf  rfl rfl (fun w => by kernel_rfl)) (yx ⟨(S.rd 7 rfl), ha.s1.nil, ha.s1.cap⟩ ⟨(S.rd 6 rfl), ha.s2.nil, ha.s2.cap⟩ ⟨(S.rd 3 rfl), hu.s1.nil, hu.s1.cap⟩ ⟨(S.rd 2 rfl), hu.s2.nil, hu.s2.cap⟩ hl.l1 hl.l2 hm.l1 hm.l2 hb7) ?_
  rintro _ w16 ⟨rfl, hb15⟩
  replace S := S.call hb15
  refine ⟨_, rfl, ?_⟩
  intro a A
  refine sdm A λa A↦?_
  iterate 5 refine qk A rfl rfl rfl λa A↦?_
  refine sdk (v := .bool false) A λa A↦?_
  refine sda A λa A↦?_
  refine qa (hK6 _ _ (wp_ret (hret _ _ (en1 A rfl (qh rfl) ?_))))
  subst hr
  exact ⟨by rw [hb7]; try rfl, S.bel⟩
theorem rord_any {w : World} {u v : Rat} {a1 a2 : Option Addr} {ac1 ac2 : Nat} (ha1 : Sc w a1 ac1 (words u.num.natAbs)) (ha2 : Sc w a2 ac2 (words u.den)) {u1 u2 : Option Addr} {uc1 uc2 : Nat} (hu1 : Sc w u1 uc1 (words v.num.natAbs)) (hu2 : Sc w u2 uc2 (words v.den)) (hu : xn u) (hv : xn v) : Calls Tryz.prog 27 #[.agg #[.bool (rb u.num), .slice a1 (words u.num.natAbs).length ac1, .slice a2 (words u.den).length ac2], .agg #[.bool (rb v.num), .slice u1 (words v.num.natAbs).length uc1, .slice u2 (words v.den).length uc2]] w fun e w' => e = .returned (.int .i64 (vt u v)) ∧ Below w.heap.size w w' := rorderR_any ha1 ha2 hu1 hu2 (qaa hu) (qaa hv) rfl rfl rfl (lenR_neg (qaa hv)) ((lenR_add (qaa hu) (lenR_neg (qaa hv))).mono (by decide))
end Go.Proofs.YtabjlejolmmeeaaGreatDoor
namespace Go.Proofs.YtabjlejolmmeeaaGreatDoor.G
open Go.RowKit Go.Lib
set_option linter.unusedVariables false
set_option linter.unusedSimpArgs false

/-- Lists of numbers; a beginning comes first. -/
def qgh : List Int → List Int → Int
  | [], [] => 0
  | [], _ :: _ => -1
  | _ :: _, [] => 1
  | x :: xs, y :: ys => lex (ju x y) (qgh xs ys)
theorem cons_cmp (x y : UInt8) (a b : List UInt8) : compareBytes (x :: a) (y :: b) = lex (ju x.toNat y.toNat) (compareBytes a b) := by
  show (if x < y then (-1 : Int) else if y < x then 1 else compareBytes a b) = _
  unfold lex ju
  simp only [UInt8.lt_iff_toNat_lt]
  by_cases h1 : x.toNat < y.toNat
  · rw [if_pos h1, if_pos (by omega : (x.toNat : Int) < y.toNat)]; rfl
  · rw [if_neg h1, if_neg (by omega : ¬ (x.toNat : Int) < y.toNat)]
    by_cases h2 : y.toNat < x.toNat
    · rw [if_pos h2, if_pos (by omega : (y.toNat : Int) < x.toNat)]; rfl
    · rw [if_neg h2, if_neg (by omega : ¬ (y.toNat : Int) < x.toNat)]; rfl
theorem yn (x y z : Int) : lex (lex x y) z = lex x (lex y z) := by
  unfold lex
  by_cases h : x = 0
  · rw [if_pos h, if_pos h]
  · rw [if_neg h, if_neg h, if_neg h]
theorem ke (c a b : Int) : ju (c + a) (c + b) = ju a b := by
  unfold ju
  (repeat' split) <;> omega
theorem qbd (r q : Int) : ju r q = lex (ju (r / 64) (q / 64)) (ju (r % 64) (q % 64)) := by
  unfold lex ju
  (repeat' split) <;> omega
theorem lex_lt {p q r s x y : Int} (h : p < q) (k : r < s) : lex (ju p q) x = lex (ju r s) y := by
  unfold lex ju
  rw [if_pos h, if_pos k]; rfl
theorem lex_gt {p q r s x y : Int} (h : q < p) (k : s < r) : lex (ju p q) x = lex (ju r s) y := by
  unfold lex ju
  rw [if_neg (show ¬ p < q by omega), if_pos h, if_neg (show ¬ r < s by omega), if_pos k]; rfl
theorem byte_val {z : Int} (h0 : 0 ≤ z) (h1 : z ≤ 255) : ((z.toNat.toUInt8.toNat : Nat) : Int) = z := by
  show (((UInt8.ofNat z.toNat).toNat : Nat) : Int) = z
  rw [UInt8.toNat_ofNat']
  omega
theorem qkb {p q : Int} (h0 : 0 ≤ p) (h1 : p ≤ 255) (k0 : 0 ≤ q) (k1 : q ≤ 255) (a b : List UInt8) : compareBytes (p.toNat.toUInt8 :: a) (q.toNat.toUInt8 :: b) = lex (ju p q) (compareBytes a b) := by
  rw [cons_cmp, byte_val h0 h1, byte_val k0 k1]
def OkC2 (r : Int) : Prop := 0 ≤ r ∧ r ≤ 1114111 ∧ ¬ (55296 ≤ r ∧ r ≤ 57343)
theorem enc_cases {r : Int} (h : OkC2 r) : (r ≤ 127 ∧ encodeRune r = [r.toNat.toUInt8]) ∨ (128 ≤ r ∧ r ≤ 2047 ∧ encodeRune r = [(192 + r / 64).toNat.toUInt8, (128 + r % 64).toNat.toUInt8]) ∨
    (2048 ≤ r ∧ r ≤ 65535 ∧ encodeRune r = [(224 + r / 4096).toNat.toUInt8, (128 + r / 64 % 64).toNat.toUInt8, (128 + r % 64).toNat.toUInt8]) ∨
    (65536 ≤ r ∧ encodeRune r = [(240 + r / 262144).toNat.toUInt8, (128 + r / 4096 % 64).toNat.toUInt8, (128 + r / 64 % 64).toNat.toUInt8, (128 + r % 64).toNat.toUInt8]) := by
  obtain ⟨h0, h1, h2⟩ := h
  unfold encodeRune
  by_cases a : r ≤ 127
  · left; exact ⟨a, by rw [encodeRuneZ_one h0 a]; rfl⟩
  · right
    by_cases b : r ≤ 2047
    · left; exact ⟨by omega, b, by rw [encodeRuneZ_two (by omega) b]; rfl⟩
    · right
      by_cases c : r ≤ 65535
      · left; exact ⟨by omega, c, by rw [encodeRuneZ_three (by omega)]; rfl⟩
      · right; exact ⟨by omega, by rw [encodeRuneZ_four (by omega) h1]; rfl⟩
theorem enc_cmp {r q : Int} (hr : OkC2 r) (hq : OkC2 q) (x y : List UInt8) : compareBytes (encodeRune r ++ x) (encodeRune q ++ y) = lex (ju r q) (compareBytes x y) := by
  obtain ⟨r0, r1, r2⟩ := hr
  obtain ⟨q0, q1, q2⟩ := hq
  rcases enc_cases ⟨r0, r1, r2⟩ with ⟨a1, e⟩ | ⟨a0, a1, e⟩ | ⟨a0, a1, e⟩ | ⟨a0, e⟩ <;> rcases enc_cases ⟨q0, q1, q2⟩ with ⟨b1, f⟩ | ⟨b0, b1, f⟩ | ⟨b0, b1, f⟩ | ⟨b0, f⟩ <;> rw [e, f] <;> simp only [List.cons_append, List.nil_append] <;> rw [qkb (by omega) (by omega) (by omega) (by omega)] <;> first | rfl | exact lex_lt (by omega) (by omega) | exact lex_gt (by omega) (by omega) | skip
  · rw [qkb (by omega) (by omega) (by omega) (by omega), ke, ke, ← yn, ← qbd]
  · rw [qkb (by omega) (by omega) (by omega) (by omega), qkb (by omega) (by omega) (by omega) (by omega), ke, ke, ke, ← yn, ← yn]
    rw [show r / 4096 = r / 64 / 64 by omega, show q / 4096 = q / 64 / 64 by omega, ← qbd, ← qbd]
  · rw [qkb (by omega) (by omega) (by omega) (by omega), qkb (by omega) (by omega) (by omega) (by omega), qkb (by omega) (by omega) (by omega) (by omega), ke, ke, ke, ke, ← yn, ← yn, ← yn]
    rw [show r / 262144 = r / 4096 / 64 by omega, show q / 262144 = q / 4096 / 64 by omega, ← qbd]
    rw [show r / 4096 = r / 64 / 64 by omega, show q / 4096 = q / 64 / 64 by omega, ← qbd, ← qbd]
theorem kx {l : List UInt8} (hl : l ≠ []) : jb l = ((decodeL l).1 : Int) :: jb (l.drop (decodeL l).2) := by
  have hw := xk l hl
  unfold jb
  obtain ⟨m, hm⟩ : ∃ m, l.length = m + 1 := ⟨l.length - 1, by omega⟩
  rw [hm]
  conv => lhs; unfold vn
  rw [if_neg hl, qab m (l.drop (decodeL l).2).length _ (by rw [List.length_drop]; omega) (Nat.le_refl _)]
theorem qgc {l : List UInt8} (hl : l ≠ []) (h : validD l = true) : ¬ ((decodeL l).1 = 65533 ∧ (decodeL l).2 = 1) ∧ validD (l.drop (decodeL l).2) = true := by
  have hw := xk l hl
  unfold validD at h ⊢
  obtain ⟨m, hm⟩ : ∃ m, l.length = m + 1 := ⟨l.length - 1, by omega⟩
  rw [hm] at h
  unfold validGoD at h
  rw [if_neg hl] at h
  by_cases hb : (decodeL l).1 = 65533 ∧ (decodeL l).2 = 1
  · rw [if_pos hb] at h; cases h
  · rw [if_neg hb] at h
    refine ⟨hb, ?_⟩
    rw [ue _ 0] at h ⊢
    rw [yv (l.drop (decodeL l).2).length m 0 _ (Nat.le_refl _) (by rw [List.length_drop]; omega)]
    exact h
theorem qcd (l : List UInt8) : OkC2 ((decodeL l).1 : Int) := by
  have := decode_okN l
  exact ⟨by omega, this.1, by have := this.2; omega⟩
theorem row_bytes : ∀ (n : Nat) (a b : List UInt8), a.length ≤ n → validD a = true → validD b = true → qgh (jb a) (jb b) = compareBytes a b := by
  intro n
  induction n with
  | zero =>
    intro a b hn ha hb
    have : a = [] := List.length_eq_zero_iff.1 (by omega)
    subst this
    by_cases h : b = []
    · subst h; rfl
    · rw [kx h]
      cases b with
      | nil => exact absurd rfl h
      | cons y b => rfl
  | succ n ih =>
    intro a b hn ha hb
    by_cases h1 : a = []
    · subst h1
      by_cases h : b = []
      · subst h; rfl
      · rw [kx h]
        cases b with
        | nil => exact absurd rfl h
        | cons y b => rfl
    · by_cases h2 : b = []
      · subst h2
        rw [kx h1]
        cases a with
        | nil => exact absurd rfl h1
        | cons y b => rfl
      · obtain ⟨va, va'⟩ := qgc h1 ha
        obtain ⟨vb, vb'⟩ := qgc h2 hb
        have wa := xk a h1
        rw [kx h1, kx h2]
        show lex _ (qgh _ _) = _
        rw [ih _ _ (by rw [List.length_drop]; omega) va' vb', ← enc_cmp (qcd a) (qcd b), encode_decode a h1 va, encode_decode b h2 vb, List.take_append_drop, List.take_append_drop]
theorem qkc {s t : ByteArray} (hs : okS s = true) (ht : okS t = true) : qgh (jb s.data.toList) (jb t.data.toList) = compareBytes s.data.toList t.data.toList := row_bytes _ _ _ (Nat.le_refl _) hs ht
/-- Bytes as numbers. -/
def vp (l : List UInt8) : List Int := l.map fun b => ((b.toNat : Nat) : Int)
theorem row_raw : ∀ a b : List UInt8, qgh (vp a) (vp b) = compareBytes a b
  | [], [] => rfl
  | [], _ :: _ => rfl
  | _ :: _, [] => rfl
  | x :: a, y :: b => by
    rw [cons_cmp]
    show lex _ (qgh (vp a) (vp b)) = _
    rw [row_raw a b]
theorem rowI_go {a b : List Int} {i : Nat} (ha : i < a.length) (hb : i < b.length) : qgh (a.drop i) (b.drop i) = lex (ju (a.getD i 0) (b.getD i 0)) (qgh (a.drop (i + 1)) (b.drop (i + 1))) := by
  rw [List.drop_eq_getElem_cons ha, List.drop_eq_getElem_cons hb, show a.getD i 0 = a[i] from by simp [List.getD, List.getElem?_eq_getElem ha], show b.getD i 0 = b[i] from by simp [List.getD, List.getElem?_eq_getElem hb]]
  rfl
theorem rowI_end {a b : List Int} {i : Nat} (h : i ≤ a.length) (k : i ≤ b.length) (e : ¬ i < a.length ∨ ¬ i < b.length) : qgh (a.drop i) (b.drop i) = ju (a.length : Int) (b.length : Int) := by
  by_cases ha : i < a.length
  · have hb : i = b.length := by omega
    rw [List.drop_eq_getElem_cons ha, List.drop_of_length_le (l := b) (by omega)]
    unfold ju
    rw [if_neg (by omega), if_pos (by omega)]
    rfl
  · rw [List.drop_of_length_le (l := a) (by omega)]
    by_cases hb : i < b.length
    · rw [List.drop_eq_getElem_cons hb]
      unfold ju
      rw [if_pos (by omega)]
      rfl
    · rw [List.drop_of_length_le (l := b) (by omega)]
      unfold ju
      rw [if_neg (by omega), if_neg (by omega)]
      rfl
/-- Numbers as they lie in a row of runes. -/
def xl (rs : List Int) : List Value := rs.map fun r => .int .i32 r
theorem runeW_at {rs : List Int} {j : Nat} (h : j < rs.length) : (xl rs)[j]? = some (.int .i32 (rs.getD j 0)) := by
  unfold xl
  rw [List.getElem?_map, List.getElem?_eq_getElem h]
  simp [List.getD, List.getElem?_eq_getElem h]
theorem yy {w0 w : World} {L : List Ck} {e : TypeId} (hM : Mg w0 w L) (k : Nat) {so : Option Addr} {n cap : Nat} {rs : List Int} (hk : L[k]? = some (.row e 1 (.slice so n cap) n (xl rs))) : Rr w so rs := by
  have h := hM.has k hk
  have hn : n = rs.length := by have h1 := h.1; rw [show (xl rs).length = rs.length from List.length_map _] at h1; omega
  refine ⟨fun hne => ?_⟩
  rcases h.2 with ⟨he, h0⟩ | ⟨g, cap', cur, he, hB, hc, h3⟩
  · rw [h0] at hn; exact absurd (List.length_eq_zero_iff.1 hn.symm) hne
  · cases he
    refine ⟨g, 0, rfl, (Array.getElem?_eq_some_iff.1 hc).1, fun j hj => ?_⟩
    rw [Nat.zero_add, World.ownsRow.cellAt h j (by omega)]
    exact runeW_at hj
def InR (l : List Int) : Prop := ∀ j, -2147483648 ≤ l.getD j 0 ∧ l.getD j 0 ≤ 2147483647
theorem inR_of {l : List Int} (h : ∀ x ∈ l, -2147483648 ≤ x ∧ x ≤ 2147483647) : InR l := by
  intro j
  by_cases hj : j < l.length
  · rw [show l.getD j 0 = l[j] from by simp [List.getD, List.getElem?_eq_getElem hj]]
    exact h _ (List.getElem_mem hj)
  · rw [show l.getD j 0 = 0 from by simp [List.getD, List.getElem?_eq_none (Nat.le_of_not_lt hj)]]
    omega
theorem inR_raw (l : List UInt8) : InR (vp l) := by
  refine inR_of fun x hx => ?_
  obtain ⟨b, _, rfl⟩ := List.mem_map.1 hx
  have := b.toNat_lt
  omega
theorem charsF_in : ∀ (f : Nat) (l : List UInt8), ∀ x ∈ vn f l, -2147483648 ≤ x ∧ x ≤ 2147483647
  | 0, l, x, hx => by simp [vn] at hx
  | f + 1, l, x, hx => by
    unfold vn at hx
    by_cases hl : l = []
    · rw [if_pos hl] at hx; cases hx
    · rw [if_neg hl] at hx
      rcases List.mem_cons.1 hx with e | e
      · subst e; have := qcd l; unfold OkC2 at this; omega
      · exact charsF_in f _ x e
theorem yp (l : List UInt8) : InR (jb l) := inR_of (charsF_in _ _)
theorem raw_take {l : List UInt8} {i : Nat} (hi : i < l.length) : vp (l.take (i + 1)) = vp (l.take i) ++ [(((l.getD i 0).toNat : Nat) : Int)] := by
  unfold vp
  rw [List.take_succ_eq_append_getElem hi, List.map_append, show l.getD i 0 = l[i] from by simp [List.getD, List.getElem?_eq_getElem hi]]
  rfl
theorem runeW_app (a b : List Int) : xl a ++ xl b = xl (a ++ b) := by unfold xl; rw [List.map_append]
/-! ### The same trees, by the document -/
mutual
def yz : Tr → Tr → Bool
  | .mk k n q s rl ts, u => (decide (k = u.k) && (decide (n = u.n) && (decide (s = u.s) && (decide (rl = u.rl) && (xv q.b1 q.t1 q.q1 u.q.b1 u.q.t1 u.q.q1 && xv q.b2 q.t2 q.q2 u.q.b2 u.q.t2 u.q.q2))))) && (decide (ts.length = u.ts.length) && yb ts u.ts)
def yb : List Tr → List Tr → Bool
  | [], _ => true
  | _ :: _, [] => true
  | t :: ts, u :: us => yz t u && yb ts us
end
theorem sameF_iff {b b' : Bool} {t q t' q' : List Nat} : xv b t q b' t' q' = true ↔ b = b' ∧ t = t' ∧ q = q' := by
  unfold xv
  simp
theorem sameT_mk (k n : Int) (q : Q6) (s : ByteArray) (rl : List UInt8) (ts : List Tr) (k' n' : Int) (q' : Q6) (s' : ByteArray) (rl' : List UInt8) (ts' : List Tr) : yz (.mk k n q s rl ts) (.mk k' n' q' s' rl' ts') = true ↔ k = k' ∧ n = n' ∧ q = q' ∧ s = s' ∧ rl = rl' ∧ ts.length = ts'.length ∧ yb ts ts' = true := by
  rw [yz]
  show ((decide (k = k') && (decide (n = n') && (decide (s = s') && (decide (rl = rl') && (xv q.b1 q.t1 q.q1 q'.b1 q'.t1 q'.q1 && xv q.b2 q.t2 q.q2 q'.b2 q'.t2 q'.q2))))) && (decide (ts.length = ts'.length) && yb ts ts')) = true ↔ _
  simp only [Bool.and_eq_true, decide_eq_true_eq, sameF_iff]
  constructor
  · rintro ⟨⟨a, b, c, d, ⟨e1, e2, e3⟩, f1, f2, f3⟩, g, h⟩
    refine ⟨a, b, ?_, c, d, g, h⟩
    cases q; cases q'
    simp_all
  · rintro ⟨a, b, c, d, e, f, g⟩
    subst c
    exact ⟨⟨a, b, d, e, ⟨rfl, rfl, rfl⟩, rfl, rfl, rfl⟩, f, g⟩
theorem sameL_eq {ts : List Tr} (h : ∀ t ∈ ts, ∀ u, yz t u = true ↔ t = u) : ∀ us : List Tr, ts.length = us.length → (yb ts us = true ↔ ts = us) := by
  induction ts with
  | nil =>
    intro us hl
    cases us with
    | nil => simp [yb]
    | cons u us => simp at hl
  | cons t ts ih =>
    intro us hl
    cases us with
    | nil => simp at hl
    | cons u us =>
      rw [yb, Bool.and_eq_true, h t List.mem_cons_self u, ih (fun x hx => h x (List.mem_cons_of_mem _ hx)) us (by simpa using hl)]
      simp
theorem sameT_eq : ∀ t u : Tr, yz t u = true ↔ t = u := by
  refine Tr.indT fun k n q s rl ts ih u => ?_
  obtain ⟨k', n', q', s', rl', ts'⟩ := u
  rw [sameT_mk]
  constructor
  · rintro ⟨a, b, c, d, e, f, g⟩
    rw [a, b, c, d, e, (sameL_eq ih ts' f).1 g]
  · intro h
    cases h
    exact ⟨rfl, rfl, rfl, rfl, rfl, rfl, (sameL_eq ih ts rfl).2 rfl⟩
theorem same_ord {w : World} {t u : Dt} (ht : t.tr.good) (hu : u.tr.good) : yz t.tr u.tr = decide (xz t.tr u.tr = 0) := by
  by_cases h : t.tr = u.tr
  · rw [(sameT_eq _ _).2 h, h, ordT_self]; rfl
  · rw [Bool.eq_false_iff.2 (fun e => h ((sameT_eq _ _).1 e)), decide_eq_false (fun e => h (ordT_zero _ ht _ hu e))]
theorem sameL_go {ts us : List Dt} {i : Nat} {t u : Dt} (hi : ts[i]? = some t) (hj : us[i]? = some u) : yb ((ts.map Dt.tr).drop i) ((us.map Dt.tr).drop i) = (yz t.tr u.tr && yb ((ts.map Dt.tr).drop (i + 1)) ((us.map Dt.tr).drop (i + 1))) := by
  rw [kt hi, kt hj, yb]
theorem sameL_end {ts us : List Dt} {i : Nat} (h : ¬ i < ts.length) : yb ((ts.map Dt.tr).drop i) ((us.map Dt.tr).drop i) = true := by
  rw [ug h, yb]
theorem sameT_at (p r : Dt) : yz p.tr r.tr = ((decide (p.d.k = r.d.k) && (decide (p.d.n = r.d.n) && (decide (p.d.s = r.d.s) && (decide (p.d.rl = r.d.rl) && (xv p.d.y.q.b1 p.d.y.q.t1 p.d.y.q.q1 r.d.y.q.b1 r.d.y.q.t1 r.d.y.q.q1 && xv p.d.y.q.b2 p.d.y.q.t2 p.d.y.q.q2 r.d.y.q.b2 r.d.y.q.t2 r.d.y.q.q2))))) && (decide (p.ts.length = r.ts.length) && yb (p.ts.map Dt.tr) (r.ts.map Dt.tr))) := by
  rw [Dt.tr_eta p, Dt.tr_eta r, yz, List.length_map]
  show _ = (_ && (decide (p.ts.length = r.ts.length) && _))
  rw [show (Tr.mk r.d.k r.d.n r.d.y.q r.d.s r.d.rl (r.ts.map Dt.tr)).ts.length = r.ts.length from List.length_map _]
  rfl
def SQ2 (p r : Dt) : Bool := xv p.d.y.q.b1 p.d.y.q.t1 p.d.y.q.q1 r.d.y.q.b1 r.d.y.q.t1 r.d.y.q.q1 && xv p.d.y.q.b2 p.d.y.q.t2 p.d.y.q.q2 r.d.y.q.b2 r.d.y.q.t2 r.d.y.q.q2
theorem un {p r : Dt} (h : p.d.k ≠ r.d.k ∨ p.d.n ≠ r.d.n ∨ p.d.s ≠ r.d.s ∨ p.d.rl ≠ r.d.rl ∨ p.ts.length ≠ r.ts.length ∨ SQ2 p r = false) : yz p.tr r.tr = false := by
  rw [sameT_at]
  unfold SQ2 at h
  rcases h with h | h | h | h | h | h <;> simp [h]
theorem same_yes {p r : Dt} (h1 : p.d.k = r.d.k) (h2 : p.d.n = r.d.n) (h3 : p.d.s = r.d.s) (h4 : p.d.rl = r.d.rl) (h5 : p.ts.length = r.ts.length) (h6 : SQ2 p r = true) : yz p.tr r.tr = yb (p.ts.map Dt.tr) (r.ts.map Dt.tr) := by
  rw [sameT_at]
  unfold SQ2 at h6
  rw [decide_eq_true h1, decide_eq_true h2, decide_eq_true h3, decide_eq_true h4, decide_eq_true h5, h6]
  simp
theorem bytes_ext {a b : List UInt8} (hl : a.length = b.length) (h : ∀ j, j < a.length → a.getD j 0 = b.getD j 0) : a = b := by
  apply List.ext_getElem hl
  intro j h1 h2
  have := h j h1
  rwa [show a.getD j 0 = a[j] from by simp [List.getD, List.getElem?_eq_getElem h1], show b.getD j 0 = b[j] from by simp [List.getD, List.getElem?_eq_getElem h2]] at this
theorem ne_at {a b : List UInt8} {i : Nat} (h : (((a.getD i 0).toNat : Nat) : Int) ≠ (((b.getD i 0).toNat : Nat) : Int)) : a ≠ b := fun e => h (by rw [e])
theorem eq_at {a b : UInt8} (h : ((a.toNat : Nat) : Int) = ((b.toNat : Nat) : Int)) : a = b := UInt8.toNat_inj.1 (by omega)
/-- What the document's order of two nodes of one kind comes to. -/
theorem kf {p r : Dt} (h : p.d.k = r.d.k) : xz p.tr r.tr = if p.d.k = 3 then qki p.d.y.q r.d.y.q else if p.d.k = 5 ∨ p.d.k = 6 ∨ p.d.k = 11 then compareBytes p.d.s.data.toList r.d.s.data.toList else if p.d.k = 7 then compareBytes p.d.rl r.d.rl else if p.d.k = 8 ∨ p.d.k = 9 then lex (ju (p.ts.length : Int) (r.ts.length : Int)) (vz (p.ts.map Dt.tr) (r.ts.map Dt.tr)) else ju p.d.n r.d.n := by
  rw [qih h]
  unfold ordK
  by_cases h8 : p.d.k = 8 ∨ p.d.k = 9
  · rw [if_pos h8, if_neg (by omega), if_neg (by omega), if_neg (by omega), if_pos h8]
  · rw [if_neg h8]
    split
    · rfl
    · split
      · rfl
      · split
        · rfl
        · rfl
open Go.RowKit
set_option maxRecDepth 100000
theorem EqE_is1_21 : Is1 Tryz.prog 21 := ⟨⟨_, Tryz.underlying21, rfl⟩, by kernel_rfl⟩
theorem EqE_is1_27 : Is1 Tryz.prog 27 := ⟨⟨_, Tryz.underlying27, rfl⟩, by kernel_rfl⟩
theorem EqE_is1_28 : Is1 Tryz.prog 28 := ⟨⟨_, Tryz.underlying28, rfl⟩, by kernel_rfl⟩
theorem EqE_is1_3 : Is1 Tryz.prog 3 := ⟨⟨_, Tryz.underlying3, rfl⟩, by kernel_rfl⟩
theorem EqE_is1_5 : Is1 Tryz.prog 5 := ⟨⟨_, Tryz.underlying5, rfl⟩, by kernel_rfl⟩
theorem EqE_is1_9 : Is1 Tryz.prog 9 := ⟨⟨_, Tryz.underlying9, rfl⟩, by kernel_rfl⟩
theorem EqE_fld_26_0 : FieldAt Tryz.prog 26 0 0 := ⟨_, _, Tryz.underlying26, rfl, rfl, by kernel_rfl⟩
theorem EqE_fld_26_1 : FieldAt Tryz.prog 26 1 3 := ⟨_, _, Tryz.underlying26, rfl, rfl, by kernel_rfl⟩
theorem EqE_fld_30_0 : FieldAt Tryz.prog 30 0 0 := ⟨_, _, Tryz.underlying30, rfl, rfl, by kernel_rfl⟩
theorem EqE_fld_30_1 : FieldAt Tryz.prog 30 1 1 := ⟨_, _, Tryz.underlying30, rfl, rfl, by kernel_rfl⟩
theorem EqE_fld_30_2 : FieldAt Tryz.prog 30 2 2 := ⟨_, _, Tryz.underlying30, rfl, rfl, by kernel_rfl⟩
theorem EqE_fld_30_3 : FieldAt Tryz.prog 30 3 8 := ⟨_, _, Tryz.underlying30, rfl, rfl, by kernel_rfl⟩
theorem EqE_fld_30_4 : FieldAt Tryz.prog 30 4 9 := ⟨_, _, Tryz.underlying30, rfl, rfl, by kernel_rfl⟩
theorem EqE_fld_30_5 : FieldAt Tryz.prog 30 5 10 := ⟨_, _, Tryz.underlying30, rfl, rfl, by kernel_rfl⟩
theorem EqE_isS_24 : IsS Tryz.prog 24 3 := ⟨⟨_, Tryz.underlying24⟩, by kernel_rfl⟩
theorem EqE_isS_30 : IsS Tryz.prog 30 11 := ⟨⟨_, Tryz.underlying30⟩, by kernel_rfl⟩
theorem km {w : World} {m n : Int} : Calls Tryz.prog 26 #[.int .i64 m, .int .i64 n] w fun e w' => e = .returned (.int .i64 (ju m n)) ∧ Below w.heap.size w w' := by
 have M : Mg w w ([]) := Mg.start w
 refine ze (l := [(0, .int .i64 m), (1, .int .i64 n)]) Tryz.func26 rfl Tryz.ntmps26 rfl rfl ?_
 intro Q hret hnorm hP a A
 refine wsk fun K1 hK1 => wrl (sda A λa A↦?_)
 refine qa (hK1 _ _ (wsk fun K2 hK2 => wsk fun K3 hK3 => wrl ?_))
 iterate 2 refine sdm A λa A↦?_
 rcases tf (decide (m < n)) with hb4 | hb4
 ·
  have hb4' := of_decide_eq_true hb4
  refine sdo (v := .bool true) A (qb rfl rfl (fun w => (zk w).trans (by rw [hb4]))) λa A↦?_
  refine qa (hK3 _ _ (wp_cond_true (A.ev rfl) ?_))
  refine wsk fun K5 hK5 => wrl (sda A λa A↦?_)
  refine qa (hK5 _ _ (wp_ret (hret _ _ (en1 A rfl (qh rfl) ?_))))
  exact ⟨by rw [show ju m n = -1 from by unfold ju; (repeat' split) <;> omega], M.bel⟩
 ·
  have hb4' := of_decide_eq_false hb4
  refine sdo (v := .bool false) A (qb rfl rfl (fun w => (zk w).trans (by rw [hb4]))) λa A↦?_
  refine qa (hK3 _ _ (wp_cond_false (A.ev rfl) ?_))
  refine wp_skip (hK2 _ _ (wsk fun K6 hK6 => wsk fun K7 hK7 => wrl ?_))
  iterate 2 refine sdm A λa A↦?_
  rcases tf (decide (n < m)) with hb8 | hb8
  ·
   have hb8' := of_decide_eq_true hb8
   refine sdo (v := .bool true) A (qb rfl rfl (fun w => (jd w).trans (by rw [hb8]))) λa A↦?_
   refine qa (hK7 _ _ (wp_cond_true (A.ev rfl) ?_))
   refine wsk fun K9 hK9 => wrl (sda A λa A↦?_)
   refine qa (hK9 _ _ (wp_ret (hret _ _ (en1 A rfl (qh rfl) ?_))))
   exact ⟨by rw [show ju m n = 1 from by unfold ju; (repeat' split) <;> omega], M.bel⟩
  ·
   have hb8' := of_decide_eq_false hb8
   refine sdo (v := .bool false) A (qb rfl rfl (fun w => (jd w).trans (by rw [hb8]))) λa A↦?_
   refine qa (hK7 _ _ (wp_cond_false (A.ev rfl) ?_))
   refine wp_skip (hK6 _ _ (wsk fun K10 hK10 => wrl (sda A λa A↦?_)))
   refine qa (hK10 _ _ (wp_ret (hret _ _ (en1 A rfl (qh rfl) ?_))))
   exact ⟨by rw [show ju m n = 0 from by unfold ju; (repeat' split) <;> omega], M.bel⟩
theorem kn {w : World} {s : ByteArray} (hs : s.size ≤ 2000000) : Calls Tryz.prog 29 #[.string s] w fun e w' => ∃ v, e = .returned v ∧ Mg w w' [.row 21 1 v (jb s.data.toList).length (xl (jb s.data.toList))] := by
 have M : Mg w w ([]) := Mg.start w
 refine ze (l := [(0, .string s)]) Tryz.func29 rfl Tryz.ntmps29 rfl rfl ?_
 intro Q hret hnorm hP a A
 refine wsk fun K1 hK1 => wrl (sda A λa A↦?_)
 refine qa (hK1 _ _ (wsk fun K2 hK2 => wrl (jm (e := 21) (sz := 1) (m := 0) (vs := []) A M rfl rfl rfl (qp rfl (by kernel_rfl)) rfl rfl (.inl (by decide)) ?_)))
 intro g3 w4 M a A
 refine sda A λa A↦?_
 refine qa (hK2 _ _ (wsk fun K5 hK5 => wsk fun K6 hK6 => wrl (sdm A λa A↦?_)))
 refine s_range A M rfl Tryz.underlying9 rfl rfl rfl rfl ?_
 intro g7 w8 M a A
 refine qa (hK6 _ _ (wp_block (jr (fun m_ a w1 => ∃ (p : Nat) (acc : List Int) (vo : Value), m_ = 1 + (s.size - p) ∧ (acc ++ qac s p = jb s.data.toList ∧ acc.length ≤ p ∧ p ≤ s.size) ∧ Sl a 17 [(0, .string s), (2, .slice none 0 0), (3, vo), (6, .slice (some ⟨g3, 0, none⟩) 0 0), (7, .string s), (8, .pointer (some ⟨g7, 0, none⟩))] ∧ Mg w w1 (.obj g7 (.stringIter s p) :: .row 21 1 (vo) acc.length ((xl acc)) :: [])) _ ⟨0, [], .slice (some ⟨g3, 0, none⟩) 0 0, rfl, ⟨by rw [List.nil_append, charsR_zero], Nat.zero_le _, Nat.zero_le _⟩, A.keep _ ⟨rfl, rfl, rfl, rfl, rfl, rfl, trivial⟩, M⟩ ?_)))
 clear M A
 rintro m_ a w9 ⟨p, acc, vo, rfl, hinv11, A, M⟩ K10 hK10
 obtain ⟨hin9, ha9, hp9⟩ := hinv11
 refine wsk fun K12 hK12 => wrl ?_
 by_cases hx13 : p < s.size
 ·
  obtain ⟨cr15, cq16, he17⟩ : ∃ r q, Utf8.decode s p = (r, q) := ⟨_, _, rfl⟩
  refine s_next (L' := (.obj g7 (.stringIter s (p + cq16)) :: .row 21 1 (vo) acc.length ((xl acc)) :: [])) A M rfl rfl 0 rfl hx13 rfl rfl rfl he17 rfl ?_
  intro w14 M a A
  refine sdo A (jp (vs := [.bool true, .int .i64 (((p : Nat) : Int)), .int .i32 (((cr15 : Nat) : Int))]) rfl rfl) λa A↦?_
  refine qa (hK12 _ _ (wsk fun K18 hK18 => wp_cond_true (A.ev rfl) ?_))
  refine wp_skip (hK18 _ _ (wp_block (wsk fun K19 hK19 => wrl (sdo A (jp (vs := [.bool true, .int .i64 (((p : Nat) : Int)), .int .i32 (((cr15 : Nat) : Int))]) rfl rfl) λa A↦?_))))
  refine sda A λa A↦?_
  refine qa (hK19 _ _ (wrl ?_))
  iterate 2 refine sdm A λa A↦?_
  refine jm (e := 21) (sz := 1) (m := 1) (vs := [.int .i32 (((cr15 : Nat) : Int))]) A M rfl rfl rfl (qp rfl (by kernel_rfl)) rfl rfl (.inl (by decide)) ?_
  intro g20 w21 M a A
  refine zw (e := 21) (sz := 1) (k := 2) (q := acc.length) (m := 1) (xs := (xl acc)) (news := [.int .i32 (((cr15 : Nat) : Int))]) (L' := fun v22 => (.row 21 1 (.slice (some ⟨g20, 0, none⟩) 1 1) 1 ([.int .i32 (((cr15 : Nat) : Int))]) :: .obj g7 (.stringIter s (p + cq16)) :: .row 21 1 (v22) (acc.length + 1) ((xl acc) ++ [.int .i32 (((cr15 : Nat) : Int))]) :: [])) A rfl rfl rfl (zv (z := .int .i32 0) (sz := 1) (by_ := 4) Tryz.underlying48 (by kernel_rfl) rfl rfl rfl M 2 rfl rfl 0 rfl rfl rfl rfl (by omega)) (fun _ => rfl) ?_
  intro v22 w23 M a A
  refine sda A λa A↦?_
  refine qa ?_
  replace M : Mg w w23 (.obj g7 (.stringIter s (p + cq16)) :: .row 21 1 (v22) ((acc ++ [((cr15 : Nat) : Int)]).length) ((xl (acc ++ [((cr15 : Nat) : Int)]))) :: []) := by
   have h9 := M.sub (.cons _ (.cons_cons _ (.cons_cons _ (.refl _))))
   simpa [xl] using h9
  have hz9 := (unitsR_step hx13 he17).2
  refine hK10 _ _ _ (by omega) ⟨p + cq16, acc ++ [((cr15 : Nat) : Int)], v22, rfl, ⟨by rw [← hin9, charsR_step hx13 he17, List.append_assoc]; rfl, by rw [List.length_append]; simp only [List.length_cons, List.length_nil]; omega, by omega⟩, A.keep _ ⟨rfl, rfl, rfl, rfl, rfl, rfl, trivial⟩, M⟩
 ·
  refine s_over A M rfl rfl 0 rfl hx13 rfl rfl rfl λa A↦?_
  refine sdo A (jp (vs := [.bool false]) rfl rfl) λa A↦?_
  refine qa (hK12 _ _ (wsk fun K24 hK24 => wp_cond_false (A.ev rfl) ?_))
  refine wp_exit (hK5 _ _ (wsk fun K25 hK25 => wrl (sdm A λa A↦?_)))
  refine sda A λa A↦?_
  refine qa (hK25 _ _ (wp_ret (hret _ _ (en1 A rfl (qh rfl) ?_))))
  rw [← hin9, charsR_over hx13, List.append_nil]
  exact ⟨_, rfl, M.sub (.cons _ (.cons_cons _ (.refl _)))⟩
theorem raw_len {l : List UInt8} {i : Nat} (h : i ≤ l.length) : (vp (l.take i)).length = i := by unfold vp; rw [List.length_map, List.length_take]; omega
theorem rraw_any {w : World} {so : Option Addr} {ca : Nat} {l : List UInt8} (hb : Rb w so l) (hl : l.length ≤ 2000000) : Calls Tryz.prog 30 #[.slice so l.length ca] w fun e w' => ∃ v, e = .returned v ∧ Mg w w' [.row 21 1 v (vp l).length (xl (vp l))] := by
 have M : Mg w w ([]) := Mg.start w
 refine ze (l := [(0, .slice so l.length ca)]) Tryz.func30 rfl Tryz.ntmps30 rfl rfl ?_
 intro Q hret hnorm hP a A
 refine wsk fun K1 hK1 => wrl (sda A λa A↦?_)
 refine qa (hK1 _ _ (wsk fun K2 hK2 => wrl (jm (e := 21) (sz := 1) (m := 0) (vs := []) A M rfl rfl rfl (qp rfl (by kernel_rfl)) rfl rfl (.inl (by decide)) ?_)))
 intro g3 w4 M a A
 refine sda A λa A↦?_
 refine qa (hK2 _ _ (wsk fun K5 hK5 => wsk fun K6 hK6 => wrl (sda A λa A↦?_)))
 refine qa (hK6 _ _ (wp_block (jr (fun m_ a w1 => ∃ (i : Nat) (vo : Value), m_ = 1 + (l.length - i) ∧ (i ≤ l.length) ∧ Sl a 21 [(0, .slice so l.length ca), (2, .slice none 0 0), (3, vo), (4, .int .i64 (((i : Nat) : Int))), (5, .slice (some ⟨g3, 0, none⟩) 0 0)] ∧ Mg w w1 (.row 21 1 (vo) ((vp (l.take i)).length) ((xl (vp (l.take i)))) :: [])) _ ⟨0, .slice (some ⟨g3, 0, none⟩) 0 0, rfl, (by omega), A.keep _ ⟨rfl, rfl, rfl, rfl, rfl, trivial⟩, M⟩ ?_)))
 clear M A
 rintro m_ a w7 ⟨i, vo, rfl, hinv9, A, M⟩ K8 hK8
 have hi9 := hinv9
 have hq9 := raw_len hi9
 refine wsk fun K10 hK10 => wsk fun K11 hK11 => wrl ?_
 iterate 2 refine sdm A λa A↦?_
 refine sdo A (qt Tryz.underlying27 rfl) λa A↦?_
 rcases tf (decide (((i : Nat) : Int) < ((l.length : Nat) : Int))) with hb12 | hb12
 ·
  have hb12' := of_decide_eq_true hb12
  refine sdo (v := .bool true) A (qb rfl rfl (fun w => (zk w).trans (by rw [hb12]))) λa A↦?_
  refine qa (hK11 _ _ (wp_cond_true (A.ev rfl) ?_))
  refine wp_skip (hK10 _ _ (wsk fun K13 hK13 => wp_block (wrl ?_)))
  iterate 3 refine sdm A λa A↦?_
  obtain ⟨bx, ox, hx1, hx2, hx3⟩ := qhd (i := i) hb (by omega)
  have hX8 : (l.getD i 0).toNat < 256 := UInt8.toNat_lt _
  refine sdo (v := .pointer (some ⟨bx, ox + i, none⟩)) A (zt (k := i) Tryz.underlying27 (by kernel_rfl) rfl rfl rfl hx1 (by omega)) λa A↦?_
  refine sdo A (ve M hx2 (hx3 i (by omega)) EqE_is1_5 rfl) λa A↦?_
  refine sdo (v := .int .i32 ((((l.getD i 0).toNat : Nat) : Int))) A (zq rfl (ar_conv Tryz.underlying5 Tryz.underlying21 (in_i32 (by omega) (by omega)))) λa A↦?_
  refine jm (e := 21) (sz := 1) (m := 1) (vs := [.int .i32 ((((l.getD i 0).toNat : Nat) : Int))]) A M rfl rfl rfl (qp rfl (by kernel_rfl)) rfl rfl (.inl (by decide)) ?_
  intro g14 w15 M a A
  refine zw (e := 21) (sz := 1) (k := 1) (q := (vp (l.take i)).length) (m := 1) (xs := (xl (vp (l.take i)))) (news := [.int .i32 ((((l.getD i 0).toNat : Nat) : Int))]) (L' := fun v16 => (.row 21 1 (.slice (some ⟨g14, 0, none⟩) 1 1) 1 ([.int .i32 ((((l.getD i 0).toNat : Nat) : Int))]) :: .row 21 1 (v16) ((vp (l.take i)).length + 1) ((xl (vp (l.take i))) ++ [.int .i32 ((((l.getD i 0).toNat : Nat) : Int))]) :: [])) A rfl rfl rfl (zv (z := .int .i32 0) (sz := 1) (by_ := 4) Tryz.underlying48 (by kernel_rfl) rfl rfl rfl M 1 rfl rfl 0 rfl rfl rfl rfl (by omega)) (fun _ => rfl) ?_
  intro v16 w17 M a A
  refine sda A λa A↦?_
  refine qa (hK13 _ _ (wrl (sdm A λa A↦?_)))
  refine sdo (v := .int .i64 (((i + 1 : Nat) : Int))) A (qb rfl rfl (fun w => (xj (vq (by omega) (by omega)) w).trans (by rw [show (((i : Nat) : Int) + 1 : Int) = ((i + 1 : Nat) : Int) from by omega]))) λa A↦?_
  refine sda A λa A↦?_
  refine qa ?_
  replace M : Mg w w17 (.row 21 1 (v16) ((vp (l.take (i + 1))).length) ((xl (vp (l.take (i + 1))))) :: []) := by
   have h9 := M.sub (.cons _ (.cons_cons _ (.refl _)))
   have hz : i < l.length := by omega
   rw [raw_take hz, List.length_append, ← runeW_app]
   exact h9
  refine hK8 _ _ _ (by omega) ⟨i + 1, v16, rfl, (by omega), A.keep _ ⟨rfl, rfl, rfl, rfl, rfl, trivial⟩, M⟩
 ·
  have hb12' := of_decide_eq_false hb12
  refine sdo (v := .bool false) A (qb rfl rfl (fun w => (zk w).trans (by rw [hb12]))) λa A↦?_
  refine qa (hK11 _ _ (wp_cond_false (A.ev rfl) ?_))
  refine wp_exit (hK5 _ _ (wsk fun K18 hK18 => wrl (sdm A λa A↦?_)))
  refine sda A λa A↦?_
  refine qa (hK18 _ _ (wp_ret (hret _ _ (en1 A rfl (qh rfl) ?_))))
  have e9 : l.take i = l := List.take_of_length_le (by omega)
  rw [e9] at M
  exact ⟨_, rfl, M⟩
theorem qdi {w : World} {so sp : Option Addr} {ca cb : Nat} {xa xb : List Int} (ha : Rr w so xa) (hb : Rr w sp xb) (ia : InR xa) (ib : InR xb) (la : xa.length ≤ 2000000) (lb : xb.length ≤ 2000000) : Calls Tryz.prog 28 #[.slice so xa.length ca, .slice sp xb.length cb] w fun e w' => e = .returned (.int .i64 (qgh xa xb)) ∧ Below w.heap.size w w' := by
 have M : Mg w w ([]) := Mg.start w
 refine ze (l := [(0, .slice so xa.length ca), (1, .slice sp xb.length cb)]) Tryz.func28 rfl Tryz.ntmps28 rfl rfl ?_
 intro Q hret hnorm hP a A
 refine wsk fun K1 hK1 => wrl (sda A λa A↦?_)
 refine qa (hK1 _ _ (wsk fun K2 hK2 => wsk fun K3 hK3 => wrl (sda A λa A↦?_)))
 refine qa (hK3 _ _ (wp_block (jr (fun m_ a w1 => ∃ (i : Nat), m_ = 1 + (xa.length - i) ∧ (i ≤ xa.length ∧ i ≤ xb.length ∧ qgh xa xb = qgh (xa.drop i) (xb.drop i)) ∧ Sl a 43 [(0, .slice so xa.length ca), (1, .slice sp xb.length cb), (5, .int .i64 (((i : Nat) : Int)))] ∧ Mg w w1 ([])) _ ⟨0, rfl, ⟨Nat.zero_le _, Nat.zero_le _, rfl⟩, A.keep _ ⟨rfl, rfl, rfl, trivial⟩, M⟩ ?_)))
 clear M A
 rintro m_ a w4 ⟨i, rfl, hinv6, A, M⟩ K5 hK5
 obtain ⟨hi0, hi1, hin9⟩ := hinv6
 refine wsk fun K7 hK7 => wsk fun K8 hK8 => wrl ?_
 iterate 2 refine sdm A λa A↦?_
 refine sdo A (qt Tryz.underlying48 rfl) λa A↦?_
 rcases tf (decide (((i : Nat) : Int) < ((xa.length : Nat) : Int))) with hb9 | hb9
 ·
  have hb9' := of_decide_eq_true hb9
  refine sdo (v := .bool true) A (qb rfl rfl (fun w => (zk w).trans (by rw [hb9]))) λa A↦?_
  iterate 3 refine sdm A λa A↦?_
  refine sdo A (qt Tryz.underlying48 rfl) λa A↦?_
  rcases tf (decide (((i : Nat) : Int) < ((xb.length : Nat) : Int))) with hb10 | hb10
  ·
   have hb10' := of_decide_eq_true hb10
   refine sdo (v := .bool true) A (qb rfl rfl (fun w => (zk w).trans (by rw [hb10]))) λa A↦?_
   refine sdk (v := .bool true) A λa A↦?_
   refine qa (hK8 _ _ (wp_cond_true (A.ev rfl) ?_))
   refine wp_skip (hK7 _ _ (wsk fun K11 hK11 => wp_block (wsk fun K12 hK12 => ja (S := fun w1 => Mg w w1 ([])) (by kernel_rfl) ?_)))
   replace M := M.drew
   refine qg A 0 rfl rfl rfl rfl hP (M.sub (List.nil_sublist _)) (fun w1 M => za rfl) λa A↦?_
   refine qg A 1 rfl rfl rfl rfl hP (M.sub (List.nil_sublist _)) (fun w1 M => za rfl) λa A↦?_
   obtain ⟨ba, oa, ha1, ha2, ha3⟩ := rr_open (i := i) ha (by omega)
   refine qg (v := .pointer (some ⟨ba, oa + i, none⟩)) A 2 rfl rfl rfl rfl hP (M.sub (List.nil_sublist _)) (fun w1 M => zt (k := i) Tryz.underlying48 (by kernel_rfl) rfl rfl rfl ha1 (by omega)) λa A↦?_
   refine qg A 3 rfl rfl rfl rfl hP (M.sub (List.nil_sublist _)) (fun w1 M => ve M ha2 (ha3 i (by omega)) EqE_is1_21 rfl) λa A↦?_
   refine qg A 4 rfl rfl rfl rfl hP (M.sub (List.nil_sublist _)) (fun w1 M => za rfl) λa A↦?_
   refine qg A 5 rfl rfl rfl rfl hP (M.sub (List.nil_sublist _)) (fun w1 M => za rfl) λa A↦?_
   obtain ⟨bb, ob, hb1, hb2, hb3⟩ := rr_open (i := i) hb (by omega)
   refine qg (v := .pointer (some ⟨bb, ob + i, none⟩)) A 6 rfl rfl rfl rfl hP (M.sub (List.nil_sublist _)) (fun w1 M => zt (k := i) Tryz.underlying48 (by kernel_rfl) rfl rfl rfl hb1 (by omega)) λa A↦?_
   refine qg A 7 rfl rfl rfl rfl hP (M.sub (List.nil_sublist _)) (fun w1 M => ve M hb2 (hb3 i (by omega)) EqE_is1_21 rfl) λa A↦?_
   rcases tf ((xa.getD i 0 != xb.getD i 0)) with hb13 | hb13
   ·
    have hb13' := bne_iff_ne.1 hb13
    refine qg (v := .bool true) A 8 rfl rfl rfl rfl hP (M.sub (List.nil_sublist _)) (fun w1 M => qb rfl rfl (fun w => (qz w).trans (by rw [hb13]))) λa A↦?_
    refine zi (by kernel_rfl) ?_
    refine hK12 _ _ (wp_cond_true (A.ev rfl) ?_)
    refine wsk fun K14 hK14 => ja (S := fun w1 => Mg w w1 ([])) (by kernel_rfl) ?_
    replace M := M.drew
    refine qg A 0 rfl rfl rfl rfl hP (M.sub (List.nil_sublist _)) (fun w1 M => za rfl) λa A↦?_
    refine qg A 1 rfl rfl rfl rfl hP (M.sub (List.nil_sublist _)) (fun w1 M => za rfl) λa A↦?_
    refine qg (v := .pointer (some ⟨ba, oa + i, none⟩)) A 2 rfl rfl rfl rfl hP (M.sub (List.nil_sublist _)) (fun w1 M => zt (k := i) Tryz.underlying48 (by kernel_rfl) rfl rfl rfl ha1 (by omega)) λa A↦?_
    refine qg A 3 rfl rfl rfl rfl hP (M.sub (List.nil_sublist _)) (fun w1 M => ve M ha2 (ha3 i (by omega)) EqE_is1_21 rfl) λa A↦?_
    refine qg (v := .int .i64 (xa.getD i 0)) A 4 rfl rfl rfl rfl hP (M.sub (List.nil_sublist _)) (fun w1 M => zq rfl (ar_conv Tryz.underlying21 Tryz.underlying3 (in_i64 (by have := ia i; omega) (by have := ia i; omega)))) λa A↦?_
    refine qg A 5 rfl rfl rfl rfl hP (M.sub (List.nil_sublist _)) (fun w1 M => za rfl) λa A↦?_
    refine qg A 6 rfl rfl rfl rfl hP (M.sub (List.nil_sublist _)) (fun w1 M => za rfl) λa A↦?_
    refine qg (v := .pointer (some ⟨bb, ob + i, none⟩)) A 7 rfl rfl rfl rfl hP (M.sub (List.nil_sublist _)) (fun w1 M => zt (k := i) Tryz.underlying48 (by kernel_rfl) rfl rfl rfl hb1 (by omega)) λa A↦?_
    refine qg A 8 rfl rfl rfl rfl hP (M.sub (List.nil_sublist _)) (fun w1 M => ve M hb2 (hb3 i (by omega)) EqE_is1_21 rfl) λa A↦?_
    refine qg (v := .int .i64 (xb.getD i 0)) A 9 rfl rfl rfl rfl hP (M.sub (List.nil_sublist _)) (fun w1 M => zq rfl (ar_conv Tryz.underlying21 Tryz.underlying3 (in_i64 (by have := ib i; omega) (by have := ib i; omega)))) λa A↦?_
    refine qn (by kernel_rfl) (qw A 10 rfl rfl rfl rfl (qf rfl rfl (fun w => by kernel_rfl)) (km) ?_)
    rintro _ w16 ⟨rfl, hb15⟩
    replace M := M.call hb15
    refine ⟨_, rfl, (M.sub (List.nil_sublist _)), ?_⟩
    intro a A
    refine qg A 11 rfl rfl rfl rfl hP (M.sub (List.nil_sublist _)) (fun w1 M => zp rfl) λa A↦?_
    refine zi (by kernel_rfl) ?_
    refine hK14 _ _ (wp_ret (hret _ _ (en1 A rfl (qh rfl) ?_)))
    exact ⟨by rw [hin9, rowI_go (by omega) (by omega), qde (fun e => hb13' (vk e))], M.bel⟩
   ·
    have hb13' := bne_eq_false_iff_eq.1 hb13
    refine qg (v := .bool false) A 8 rfl rfl rfl rfl hP (M.sub (List.nil_sublist _)) (fun w1 M => qb rfl rfl (fun w => (qz w).trans (by rw [hb13]))) λa A↦?_
    refine zi (by kernel_rfl) ?_
    refine hK12 _ _ (wp_cond_false (A.ev rfl) ?_)
    refine wp_skip (hK11 _ _ (wrl (sdm A λa A↦?_)))
    refine sdo (v := .int .i64 (((i + 1 : Nat) : Int))) A (qb rfl rfl (fun w => (xj (vq (by omega) (by omega)) w).trans (by rw [show (((i : Nat) : Int) + 1 : Int) = ((i + 1 : Nat) : Int) from by omega]))) λa A↦?_
    refine sda A λa A↦?_
    refine qa ?_
    refine hK5 _ _ _ (by omega) ⟨i + 1, rfl, ⟨by omega, by omega, by rw [hin9, rowI_go (by omega) (by omega), hb13', yk, qdd]⟩, A.keep _ ⟨rfl, rfl, rfl, trivial⟩, M⟩
  ·
   have hb10' := of_decide_eq_false hb10
   refine sdo (v := .bool false) A (qb rfl rfl (fun w => (zk w).trans (by rw [hb10]))) λa A↦?_
   refine sdk (v := .bool false) A λa A↦?_
   refine qa (hK8 _ _ (wp_cond_false (A.ev rfl) ?_))
   refine wp_exit (hK2 _ _ (wsk fun K17 hK17 => wrl (sdm A λa A↦?_)))
   refine sdo A (qt Tryz.underlying48 rfl) λa A↦?_
   refine sdm A λa A↦?_
   refine sdo A (qt Tryz.underlying48 rfl) λa A↦?_
   refine qi A rfl rfl rfl (qf rfl rfl (fun w => by kernel_rfl)) (km) ?_
   rintro _ w19 ⟨rfl, hb18⟩
   replace M := M.call hb18
   refine ⟨_, rfl, ?_⟩
   intro a A
   refine sda A λa A↦?_
   refine qa (hK17 _ _ (wp_ret (hret _ _ (en1 A rfl (qh rfl) ?_))))
   exact ⟨by rw [hin9, rowI_end (by omega) (by omega) (by omega)], M.bel⟩
 ·
  have hb9' := of_decide_eq_false hb9
  refine sdo (v := .bool false) A (qb rfl rfl (fun w => (zk w).trans (by rw [hb9]))) λa A↦?_
  refine sdm A λa A↦?_
  iterate 4 refine qk A rfl rfl rfl λa A↦?_
  refine sdk (v := .bool false) A λa A↦?_
  refine qa (hK8 _ _ (wp_cond_false (A.ev rfl) ?_))
  refine wp_exit (hK2 _ _ (wsk fun K20 hK20 => wrl (sdm A λa A↦?_)))
  refine sdo A (qt Tryz.underlying48 rfl) λa A↦?_
  refine sdm A λa A↦?_
  refine sdo A (qt Tryz.underlying48 rfl) λa A↦?_
  refine qi A rfl rfl rfl (qf rfl rfl (fun w => by kernel_rfl)) (km) ?_
  rintro _ w22 ⟨rfl, hb21⟩
  replace M := M.call hb21
  refine ⟨_, rfl, ?_⟩
  intro a A
  refine sda A λa A↦?_
  refine qa (hK20 _ _ (wp_ret (hret _ _ (en1 A rfl (qh rfl) ?_))))
  exact ⟨by rw [hin9, rowI_end (by omega) (by omega) (by omega)], M.bel⟩
theorem rordRe {w : World} {y z : Nu} (hy : y.nm w) (hz : z.nm w) (h1 : qif y.q) (h2 : qif z.q) : Calls Tryz.prog 27 #[.agg #[.bool y.q.b1, .slice y.o1 y.q.t1.length y.c1, .slice y.o2 y.q.q1.length y.c2], .agg #[.bool z.q.b1, .slice z.o1 z.q.t1.length z.c1, .slice z.o2 z.q.q1.length z.c2]] w fun e w' => e = .returned (.int .i64 (vt (reQ y.q) (reQ z.q))) ∧ Below w.heap.size w w' := by
 obtain ⟨q, o1, c1, o2, c2, o3, c3, o4, c4⟩ := y
 obtain ⟨q', p1, d1, p2, d2, p3, d3, p4, d4⟩ := z
 obtain ⟨u, v, rfl, hu, hv⟩ := h1
 obtain ⟨x, y, rfl, hx, hy'⟩ := h2
 rw [ko, ko]
 exact rord_any hy.s1 hy.s2 hz.s1 hz.s2 hu hx
theorem rordIm {w : World} {y z : Nu} (hy : y.nm w) (hz : z.nm w) (h1 : qif y.q) (h2 : qif z.q) : Calls Tryz.prog 27 #[.agg #[.bool y.q.b2, .slice y.o3 y.q.t2.length y.c3, .slice y.o4 y.q.q2.length y.c4], .agg #[.bool z.q.b2, .slice z.o3 z.q.t2.length z.c3, .slice z.o4 z.q.q2.length z.c4]] w fun e w' => e = .returned (.int .i64 (vt (imQ y.q) (imQ z.q))) ∧ Below w.heap.size w w' := by
 obtain ⟨q, o1, c1, o2, c2, o3, c3, o4, c4⟩ := y
 obtain ⟨q', p1, d1, p2, d2, p3, d3, p4, d4⟩ := z
 obtain ⟨u, v, rfl, hu, hv⟩ := h1
 obtain ⟨x, y, rfl, hx, hy'⟩ := h2
 rw [qah, qah]
 exact rord_any hy.s3 hy.s4 hz.s3 hz.s4 hv hy'
theorem qkd {w : World} {t u : Dt} (ht : t.rd w) (hu : u.rd w) {b : Bool} (h : SQ2 t u = b) : Calls Tryz.prog 25 #[t.d.y.val, u.d.y.val] w fun e w' => e = .returned (.bool b) ∧ Below w.heap.size w w' := alikeQ_any (Dt.okT ht).1.num (Dt.okT ht).1.len (Dt.okT hu).1.num (Dt.okT hu).1.len h
theorem ya (t : Dt) : t.d.s.size ≤ t.tr.bulk := by have := qed (d := t.d) (ts := t.ts); rwa [Dt.eta] at this
theorem bulk_r (t : Dt) : t.d.rl.length ≤ t.tr.bulk := by rw [Dt.tr_eta, qaf]; omega
theorem qke : ∀ (f : Nat) (l : List UInt8), (vn f l).length ≤ f
 | 0, l => by simp [vn]
 | f + 1, l => by
  unfold vn
  split
  ·
   simp
  ·
   rw [List.length_cons]; have := qke f (l.drop (Lib.decodeL l).2); omega
theorem yq (s : ByteArray) : (jb s.data.toList).length ≤ s.size := by
 have := qke s.data.toList.length s.data.toList
 rw [← xw]; exact this
def ROrders (n : Nat) : Prop := ∀ {w : World} {t u : Dt}, t.tr.bulk < n → t.tr.bulk ≤ 2000000 → u.tr.bulk ≤ 2000000 → t.rd w → u.rd w → t.tr.good → u.tr.good → Calls Tryz.prog 16 #[.agg (t.d.cells t.ts.length).toArray, .agg (u.d.cells u.ts.length).toArray] w fun e w' => e = .returned (.int .i64 (xz t.tr u.tr)) ∧ Below w.heap.size w w'
theorem rorders_step {n : Nat} (ih : ROrders n) : ROrders (n + 1) := by
 intro w t u hn hbt hbu ht hu gt gu
 have hlt := (Dt.okT ht).2
 have M : Mg w w ([]) := Mg.start w
 refine ze (l := [(0, .agg (t.d.cells t.ts.length).toArray), (1, .agg (u.d.cells u.ts.length).toArray)]) Tryz.func16 rfl Tryz.ntmps16 rfl rfl ?_
 intro Q hret hnorm hP a A
 refine wsk fun K1 hK1 => wrl (xe (vs := [.int .i64 t.d.k, .int .i64 t.d.n, .bool t.d.y.q.b1, .slice t.d.y.o1 t.d.y.q.t1.length t.d.y.c1, .slice t.d.y.o2 t.d.y.q.q1.length t.d.y.c2, .bool t.d.y.q.b2, .slice t.d.y.o3 t.d.y.q.t2.length t.d.y.c3, .slice t.d.y.o4 t.d.y.q.q2.length t.d.y.c4, .string t.d.s, .slice t.d.ro t.d.rl.length t.d.rc, .slice t.d.lo t.ts.length t.d.lc]) (t := 30) A M rfl rfl rfl pg (qx rfl rfl) (by decide) ?_)
 intro g2 w3 M a A
 refine xe (vs := [.int .i64 u.d.k, .int .i64 u.d.n, .bool u.d.y.q.b1, .slice u.d.y.o1 u.d.y.q.t1.length u.d.y.c1, .slice u.d.y.o2 u.d.y.q.q1.length u.d.y.c2, .bool u.d.y.q.b2, .slice u.d.y.o3 u.d.y.q.t2.length u.d.y.c3, .slice u.d.y.o4 u.d.y.q.q2.length u.d.y.c4, .string u.d.s, .slice u.d.ro u.d.rl.length u.d.rc, .slice u.d.lo u.ts.length u.d.lc]) (t := 30) A M rfl rfl rfl pg (qx rfl rfl) (by decide) ?_
 intro g4 w5 M a A
 refine sda A λa A↦?_
 refine qa (hK1 _ _ (wsk fun K6 hK6 => wsk fun K7 hK7 => wrl (sdo (v := .pointer (some ⟨g2, 0, none⟩)) A (qe EqE_fld_30_0 rfl rfl) λa A↦?_)))
 refine sdo A (qm M EqE_is1_3 rfl 1 rfl rfl) λa A↦?_
 refine sdo (v := .pointer (some ⟨g4, 0, none⟩)) A (qe EqE_fld_30_0 rfl rfl) λa A↦?_
 refine sdo A (qm M EqE_is1_3 rfl 0 rfl rfl) λa A↦?_
 rcases tf ((t.d.k != u.d.k)) with hb8 | hb8
 ·
  have hb8' := bne_iff_ne.1 hb8
  refine sdo (v := .bool true) A (qb rfl rfl (fun w => (qz w).trans (by rw [hb8]))) λa A↦?_
  refine qa (hK7 _ _ (wp_cond_true (A.ev rfl) ?_))
  refine wsk fun K9 hK9 => wrl (sdo (v := .pointer (some ⟨g2, 0, none⟩)) A (qe EqE_fld_30_0 rfl rfl) λa A↦?_)
  refine sdo A (qm M EqE_is1_3 rfl 1 rfl rfl) λa A↦?_
  refine sdo (v := .pointer (some ⟨g4, 0, none⟩)) A (qe EqE_fld_30_0 rfl rfl) λa A↦?_
  refine sdo A (qm M EqE_is1_3 rfl 0 rfl rfl) λa A↦?_
  refine qi A rfl rfl rfl (qf rfl rfl (fun w => by kernel_rfl)) (km) ?_
  rintro _ w11 ⟨rfl, hb10⟩
  replace M := M.call hb10
  refine ⟨_, rfl, ?_⟩
  intro a A
  refine sda A λa A↦?_
  refine qa (hK9 _ _ (wp_ret (hret _ _ (en1 A rfl (qh rfl) ?_))))
  exact ⟨by rw [qig (by omega)], M.bel⟩
 ·
  have hb8' := bne_eq_false_iff_eq.1 hb8
  refine sdo (v := .bool false) A (qb rfl rfl (fun w => (qz w).trans (by rw [hb8]))) λa A↦?_
  refine qa (hK7 _ _ (wp_cond_false (A.ev rfl) ?_))
  refine wp_skip (hK6 _ _ (wsk fun K12 hK12 => wsk fun K13 hK13 => wrl (sdo (v := .pointer (some ⟨g2, 0, none⟩)) A (qe EqE_fld_30_0 rfl rfl) λa A↦?_)))
  refine sdo A (qm M EqE_is1_3 rfl 1 rfl rfl) λa A↦?_
  refine qa (hK13 _ _ (wp_block (wsk fun K14 hK14 => wrl ?_)))
  rcases tf ((t.d.k == 3)) with hb15 | hb15
  ·
   have hb15' := eq_of_beq hb15
   refine sdo (v := .bool true) A (qb rfl rfl (fun w => (ql w).trans (by rw [hb15]))) λa A↦?_
   refine sda A λa A↦?_
   refine qa (hK14 _ _ (wp_cond_true (A.ev rfl) ?_))
   refine wsk fun K16 hK16 => wrl (sdo (v := .pointer (some ⟨g2, 2, none⟩)) A (qe EqE_fld_30_2 rfl rfl) λa A↦?_)
   refine sdo (v := .pointer (some ⟨g2, 2, none⟩)) A (qe EqE_fld_26_0 rfl rfl) λa A↦?_
   refine sdo A (zf M EqE_isS_24 rfl 1 rfl (cs := [.bool t.d.y.q.b1, .slice t.d.y.o1 t.d.y.q.t1.length t.d.y.c1, .slice t.d.y.o2 t.d.y.q.q1.length t.d.y.c2]) rfl rfl) λa A↦?_
   refine sdo (v := .pointer (some ⟨g4, 2, none⟩)) A (qe EqE_fld_30_2 rfl rfl) λa A↦?_
   refine sdo (v := .pointer (some ⟨g4, 2, none⟩)) A (qe EqE_fld_26_0 rfl rfl) λa A↦?_
   refine sdo A (zf M EqE_isS_24 rfl 0 rfl (cs := [.bool u.d.y.q.b1, .slice u.d.y.o1 u.d.y.q.t1.length u.d.y.c1, .slice u.d.y.o2 u.d.y.q.q1.length u.d.y.c2]) rfl rfl) λa A↦?_
   refine qi A rfl rfl rfl (qf rfl rfl (fun w => by kernel_rfl)) (rordRe (y := t.d.y) (z := u.d.y) (Nu.below (Dt.okT ht).1.num M.bel) (Nu.below (Dt.okT hu).1.num M.bel) ((jn gt).2.1 (by omega)) ((jn gu).2.1 (by omega))) ?_
   rintro _ w18 ⟨rfl, hb17⟩
   replace M := M.call hb17
   refine ⟨_, rfl, ?_⟩
   intro a A
   refine sda A λa A↦?_
   refine qa (hK16 _ _ (wsk fun K19 hK19 => wsk fun K20 hK20 => wrl (sdm A λa A↦?_)))
   rcases tf ((vt (reQ t.d.y.q) (reQ u.d.y.q) != 0)) with hb21 | hb21
   ·
    have hb21' := bne_iff_ne.1 hb21
    refine sdo (v := .bool true) A (qb rfl rfl (fun w => (qz w).trans (by rw [hb21]))) λa A↦?_
    refine qa (hK20 _ _ (wp_cond_true (A.ev rfl) ?_))
    refine wsk fun K22 hK22 => wrl (sdm A λa A↦?_)
    refine sda A λa A↦?_
    refine qa (hK22 _ _ (wp_ret (hret _ _ (en1 A rfl (qh rfl) ?_))))
    exact ⟨by
     rw [kf (by omega)]
     repeat (first | rw [if_pos (by omega)] | rw [if_neg (by omega)])
     exact (congrArg (fun z => Ending.returned (.int .i64 z)) (show qki t.d.y.q u.d.y.q = _ from by unfold qki; rw [qde hb21'])).symm, M.bel⟩
   ·
    have hb21' := bne_eq_false_iff_eq.1 hb21
    refine sdo (v := .bool false) A (qb rfl rfl (fun w => (qz w).trans (by rw [hb21]))) λa A↦?_
    refine qa (hK20 _ _ (wp_cond_false (A.ev rfl) ?_))
    refine wp_skip (hK19 _ _ (wsk fun K23 hK23 => wrl (sdo (v := .pointer (some ⟨g2, 2, none⟩)) A (qe EqE_fld_30_2 rfl rfl) λa A↦?_)))
    refine sdo (v := .pointer (some ⟨g2, 5, none⟩)) A (qe EqE_fld_26_1 rfl rfl) λa A↦?_
    refine sdo A (zf M EqE_isS_24 rfl 1 rfl (cs := [.bool t.d.y.q.b2, .slice t.d.y.o3 t.d.y.q.t2.length t.d.y.c3, .slice t.d.y.o4 t.d.y.q.q2.length t.d.y.c4]) rfl rfl) λa A↦?_
    refine sdo (v := .pointer (some ⟨g4, 2, none⟩)) A (qe EqE_fld_30_2 rfl rfl) λa A↦?_
    refine sdo (v := .pointer (some ⟨g4, 5, none⟩)) A (qe EqE_fld_26_1 rfl rfl) λa A↦?_
    refine sdo A (zf M EqE_isS_24 rfl 0 rfl (cs := [.bool u.d.y.q.b2, .slice u.d.y.o3 u.d.y.q.t2.length u.d.y.c3, .slice u.d.y.o4 u.d.y.q.q2.length u.d.y.c4]) rfl rfl) λa A↦?_
    refine qi A rfl rfl rfl (qf rfl rfl (fun w => by kernel_rfl)) (rordIm (y := t.d.y) (z := u.d.y) (Nu.below (Dt.okT ht).1.num M.bel) (Nu.below (Dt.okT hu).1.num M.bel) ((jn gt).2.1 (by omega)) ((jn gu).2.1 (by omega))) ?_
    rintro _ w25 ⟨rfl, hb24⟩
    replace M := M.call hb24
    refine ⟨_, rfl, ?_⟩
    intro a A
    refine sda A λa A↦?_
    refine qa (hK23 _ _ (wp_ret (hret _ _ (en1 A rfl (qh rfl) ?_))))
    exact ⟨by
     rw [kf (by omega)]
     repeat (first | rw [if_pos (by omega)] | rw [if_neg (by omega)])
     exact (congrArg (fun z => Ending.returned (.int .i64 z)) (show qki t.d.y.q u.d.y.q = _ from by unfold qki; rw [hb21', qdd])).symm, M.bel⟩
  ·
   have hb15' := ne_of_beq_false hb15
   refine sdo (v := .bool false) A (qb rfl rfl (fun w => (ql w).trans (by rw [hb15]))) λa A↦?_
   refine sda A λa A↦?_
   refine qa (hK14 _ _ (wp_cond_false (A.ev rfl) ?_))
   refine wsk fun K26 hK26 => wsk fun K27 hK27 => wrl ?_
   rcases tf ((t.d.k == 5)) with hb28 | hb28
   ·
    have hb28' := eq_of_beq hb28
    refine sdo (v := .bool true) A (qb rfl rfl (fun w => (ql w).trans (by rw [hb28]))) λa A↦?_
    refine sda A λa A↦?_
    refine qa (hK27 _ _ (wp_cond_true (A.ev rfl) ?_))
    refine wp_skip (hK26 _ _ (wp_cond_true (A.ev rfl) ?_))
    refine wsk fun K29 hK29 => ja (S := fun w1 => Mg w w1 (.obj g4 (.cells (u.d.cells u.ts.length).toArray 30) :: .obj g2 (.cells (t.d.cells t.ts.length).toArray 30) :: [])) (by kernel_rfl) ?_
    replace M := M.drew
    refine qg (v := .pointer (some ⟨g2, 8, none⟩)) A 0 rfl rfl rfl rfl hP (M.sub (.cons_cons _ (.cons_cons _ (List.nil_sublist _)))) (fun w1 M => qe EqE_fld_30_3 rfl rfl) λa A↦?_
    refine qg A 1 rfl rfl rfl rfl hP (M.sub (.cons_cons _ (.cons_cons _ (List.nil_sublist _)))) (fun w1 M => qm M EqE_is1_9 rfl 1 rfl rfl) λa A↦?_
    refine qg (v := .pointer (some ⟨g4, 8, none⟩)) A 3 rfl rfl rfl rfl hP (M.sub (.cons_cons _ (.cons_cons _ (List.nil_sublist _)))) (fun w1 M => qe EqE_fld_30_3 rfl rfl) λa A↦?_
    refine qg A 4 rfl rfl rfl rfl hP (M.sub (.cons_cons _ (.cons_cons _ (List.nil_sublist _)))) (fun w1 M => qm M EqE_is1_9 rfl 0 rfl rfl) λa A↦?_
    refine qn (by kernel_rfl) (qw A 2 rfl rfl rfl rfl (qf rfl rfl (fun w => by kernel_rfl)) (kn (by have := ya t; omega)) ?_)
    rintro _ w34 ⟨v30, rfl, hM31⟩
    obtain ⟨so32, ca33, rfl⟩ := xp (hM31.has 0 rfl)
    replace M : Mg w w34 (.row 21 1 (.slice so32 ((jb t.d.s.data.toList).length) ca33) ((jb t.d.s.data.toList).length) ((xl (jb t.d.s.data.toList))) :: .obj g4 (.cells (u.d.cells u.ts.length).toArray 30) :: .obj g2 (.cells (t.d.cells t.ts.length).toArray 30) :: []) := (M.both hM31 (zn (by simp) (zn (by simp) (jc jg))) (zn (by simp) (jc jg)))
    refine ⟨_, rfl, (M.sub (.cons _ (.cons_cons _ (.cons_cons _ (List.nil_sublist _))))), ?_⟩
    intro a A
    refine qn (by kernel_rfl) (qw A 5 rfl rfl rfl rfl (qf rfl rfl (fun w => by kernel_rfl)) (kn (by have := ya u; omega)) ?_)
    rintro _ w39 ⟨v35, rfl, hM36⟩
    obtain ⟨so37, ca38, rfl⟩ := xp (hM36.has 0 rfl)
    replace M : Mg w w39 (.row 21 1 (.slice so37 ((jb u.d.s.data.toList).length) ca38) ((jb u.d.s.data.toList).length) ((xl (jb u.d.s.data.toList))) :: .row 21 1 (.slice so32 ((jb t.d.s.data.toList).length) ca33) ((jb t.d.s.data.toList).length) ((xl (jb t.d.s.data.toList))) :: .obj g4 (.cells (u.d.cells u.ts.length).toArray 30) :: .obj g2 (.cells (t.d.cells t.ts.length).toArray 30) :: []) := (M.both hM36 (zn (by simp) (zn (by simp) (zn (by simp) (jc jg)))) (zn (by simp) (jc jg)))
    refine ⟨_, rfl, (M.sub (.cons _ (.cons _ (.cons_cons _ (.cons_cons _ (List.nil_sublist _)))))), ?_⟩
    intro a A
    refine qn (by kernel_rfl) (qw A 6 rfl rfl rfl rfl (qf rfl rfl (fun w => by kernel_rfl)) (qdi (xa := jb t.d.s.data.toList) (xb := jb u.d.s.data.toList) (yy M 1 rfl) (yy M 0 rfl) (yp _) (yp _) (by have := yq t.d.s; have := ya t; omega) (by have := yq u.d.s; have := ya u; omega)) ?_)
    rintro _ w41 ⟨rfl, hb40⟩
    replace M := M.call hb40
    refine ⟨_, rfl, (M.sub (.cons _ (.cons _ (.cons_cons _ (.cons_cons _ (List.nil_sublist _)))))), ?_⟩
    intro a A
    refine qg A 7 rfl rfl rfl rfl hP (M.sub (.cons _ (.cons _ (.cons_cons _ (.cons_cons _ (List.nil_sublist _)))))) (fun w1 M => zp rfl) λa A↦?_
    refine zi (by kernel_rfl) ?_
    refine hK29 _ _ (wp_ret (hret _ _ (en1 A rfl (qh rfl) ?_)))
    exact ⟨by
     rw [qkc ((jn gt).1.h5 (by omega)) ((jn gu).1.h5 (by omega)), kf (by omega)]
     repeat (first | rw [if_pos (by omega)] | rw [if_neg (by omega)]), M.bel⟩
   ·
    have hb28' := ne_of_beq_false hb28
    refine sdo (v := .bool false) A (qb rfl rfl (fun w => (ql w).trans (by rw [hb28]))) λa A↦?_
    refine sda A λa A↦?_
    refine qa (hK27 _ _ (wp_cond_false (A.ev rfl) ?_))
    refine wsk fun K42 hK42 => wrl ?_
    rcases tf ((t.d.k == 6)) with hb43 | hb43
    ·
     have hb43' := eq_of_beq hb43
     refine sdo (v := .bool true) A (qb rfl rfl (fun w => (ql w).trans (by rw [hb43]))) λa A↦?_
     refine sda A λa A↦?_
     refine qa (hK42 _ _ (wp_cond_true (A.ev rfl) ?_))
     refine wp_skip (hK26 _ _ (wp_cond_true (A.ev rfl) ?_))
     refine wsk fun K44 hK44 => ja (S := fun w1 => Mg w w1 (.obj g4 (.cells (u.d.cells u.ts.length).toArray 30) :: .obj g2 (.cells (t.d.cells t.ts.length).toArray 30) :: [])) (by kernel_rfl) ?_
     replace M := M.drew
     refine qg (v := .pointer (some ⟨g2, 8, none⟩)) A 0 rfl rfl rfl rfl hP (M.sub (.cons_cons _ (.cons_cons _ (List.nil_sublist _)))) (fun w1 M => qe EqE_fld_30_3 rfl rfl) λa A↦?_
     refine qg A 1 rfl rfl rfl rfl hP (M.sub (.cons_cons _ (.cons_cons _ (List.nil_sublist _)))) (fun w1 M => qm M EqE_is1_9 rfl 1 rfl rfl) λa A↦?_
     refine qg (v := .pointer (some ⟨g4, 8, none⟩)) A 3 rfl rfl rfl rfl hP (M.sub (.cons_cons _ (.cons_cons _ (List.nil_sublist _)))) (fun w1 M => qe EqE_fld_30_3 rfl rfl) λa A↦?_
     refine qg A 4 rfl rfl rfl rfl hP (M.sub (.cons_cons _ (.cons_cons _ (List.nil_sublist _)))) (fun w1 M => qm M EqE_is1_9 rfl 0 rfl rfl) λa A↦?_
     refine qn (by kernel_rfl) (qw A 2 rfl rfl rfl rfl (qf rfl rfl (fun w => by kernel_rfl)) (kn (by have := ya t; omega)) ?_)
     rintro _ w49 ⟨v45, rfl, hM46⟩
     obtain ⟨so47, ca48, rfl⟩ := xp (hM46.has 0 rfl)
     replace M : Mg w w49 (.row 21 1 (.slice so47 ((jb t.d.s.data.toList).length) ca48) ((jb t.d.s.data.toList).length) ((xl (jb t.d.s.data.toList))) :: .obj g4 (.cells (u.d.cells u.ts.length).toArray 30) :: .obj g2 (.cells (t.d.cells t.ts.length).toArray 30) :: []) := (M.both hM46 (zn (by simp) (zn (by simp) (jc jg))) (zn (by simp) (jc jg)))
     refine ⟨_, rfl, (M.sub (.cons _ (.cons_cons _ (.cons_cons _ (List.nil_sublist _))))), ?_⟩
     intro a A
     refine qn (by kernel_rfl) (qw A 5 rfl rfl rfl rfl (qf rfl rfl (fun w => by kernel_rfl)) (kn (by have := ya u; omega)) ?_)
     rintro _ w54 ⟨v50, rfl, hM51⟩
     obtain ⟨so52, ca53, rfl⟩ := xp (hM51.has 0 rfl)
     replace M : Mg w w54 (.row 21 1 (.slice so52 ((jb u.d.s.data.toList).length) ca53) ((jb u.d.s.data.toList).length) ((xl (jb u.d.s.data.toList))) :: .row 21 1 (.slice so47 ((jb t.d.s.data.toList).length) ca48) ((jb t.d.s.data.toList).length) ((xl (jb t.d.s.data.toList))) :: .obj g4 (.cells (u.d.cells u.ts.length).toArray 30) :: .obj g2 (.cells (t.d.cells t.ts.length).toArray 30) :: []) := (M.both hM51 (zn (by simp) (zn (by simp) (zn (by simp) (jc jg)))) (zn (by simp) (jc jg)))
     refine ⟨_, rfl, (M.sub (.cons _ (.cons _ (.cons_cons _ (.cons_cons _ (List.nil_sublist _)))))), ?_⟩
     intro a A
     refine qn (by kernel_rfl) (qw A 6 rfl rfl rfl rfl (qf rfl rfl (fun w => by kernel_rfl)) (qdi (xa := jb t.d.s.data.toList) (xb := jb u.d.s.data.toList) (yy M 1 rfl) (yy M 0 rfl) (yp _) (yp _) (by have := yq t.d.s; have := ya t; omega) (by have := yq u.d.s; have := ya u; omega)) ?_)
     rintro _ w56 ⟨rfl, hb55⟩
     replace M := M.call hb55
     refine ⟨_, rfl, (M.sub (.cons _ (.cons _ (.cons_cons _ (.cons_cons _ (List.nil_sublist _)))))), ?_⟩
     intro a A
     refine qg A 7 rfl rfl rfl rfl hP (M.sub (.cons _ (.cons _ (.cons_cons _ (.cons_cons _ (List.nil_sublist _)))))) (fun w1 M => zp rfl) λa A↦?_
     refine zi (by kernel_rfl) ?_
     refine hK44 _ _ (wp_ret (hret _ _ (en1 A rfl (qh rfl) ?_)))
     exact ⟨by
      rw [qkc ((jn gt).1.h5 (by omega)) ((jn gu).1.h5 (by omega)), kf (by omega)]
      repeat (first | rw [if_pos (by omega)] | rw [if_neg (by omega)]), M.bel⟩
    ·
     have hb43' := ne_of_beq_false hb43
     refine sdo (v := .bool false) A (qb rfl rfl (fun w => (ql w).trans (by rw [hb43]))) λa A↦?_
     refine sda A λa A↦?_
     refine qa (hK42 _ _ (wp_cond_false (A.ev rfl) ?_))
     refine wrl ?_
     rcases tf ((t.d.k == 11)) with hb57 | hb57
     ·
      have hb57' := eq_of_beq hb57
      refine sdo (v := .bool true) A (qb rfl rfl (fun w => (ql w).trans (by rw [hb57]))) λa A↦?_
      refine sda A λa A↦?_
      refine qa (hK26 _ _ (wp_cond_true (A.ev rfl) ?_))
      refine wsk fun K58 hK58 => ja (S := fun w1 => Mg w w1 (.obj g4 (.cells (u.d.cells u.ts.length).toArray 30) :: .obj g2 (.cells (t.d.cells t.ts.length).toArray 30) :: [])) (by kernel_rfl) ?_
      replace M := M.drew
      refine qg (v := .pointer (some ⟨g2, 8, none⟩)) A 0 rfl rfl rfl rfl hP (M.sub (.cons_cons _ (.cons_cons _ (List.nil_sublist _)))) (fun w1 M => qe EqE_fld_30_3 rfl rfl) λa A↦?_
      refine qg A 1 rfl rfl rfl rfl hP (M.sub (.cons_cons _ (.cons_cons _ (List.nil_sublist _)))) (fun w1 M => qm M EqE_is1_9 rfl 1 rfl rfl) λa A↦?_
      refine qg (v := .pointer (some ⟨g4, 8, none⟩)) A 3 rfl rfl rfl rfl hP (M.sub (.cons_cons _ (.cons_cons _ (List.nil_sublist _)))) (fun w1 M => qe EqE_fld_30_3 rfl rfl) λa A↦?_
      refine qg A 4 rfl rfl rfl rfl hP (M.sub (.cons_cons _ (.cons_cons _ (List.nil_sublist _)))) (fun w1 M => qm M EqE_is1_9 rfl 0 rfl rfl) λa A↦?_
      refine qn (by kernel_rfl) (qw A 2 rfl rfl rfl rfl (qf rfl rfl (fun w => by kernel_rfl)) (kn (by have := ya t; omega)) ?_)
      rintro _ w63 ⟨v59, rfl, hM60⟩
      obtain ⟨so61, ca62, rfl⟩ := xp (hM60.has 0 rfl)
      replace M : Mg w w63 (.row 21 1 (.slice so61 ((jb t.d.s.data.toList).length) ca62) ((jb t.d.s.data.toList).length) ((xl (jb t.d.s.data.toList))) :: .obj g4 (.cells (u.d.cells u.ts.length).toArray 30) :: .obj g2 (.cells (t.d.cells t.ts.length).toArray 30) :: []) := (M.both hM60 (zn (by simp) (zn (by simp) (jc jg))) (zn (by simp) (jc jg)))
      refine ⟨_, rfl, (M.sub (.cons _ (.cons_cons _ (.cons_cons _ (List.nil_sublist _))))), ?_⟩
      intro a A
      refine qn (by kernel_rfl) (qw A 5 rfl rfl rfl rfl (qf rfl rfl (fun w => by kernel_rfl)) (kn (by have := ya u; omega)) ?_)
      rintro _ w68 ⟨v64, rfl, hM65⟩
      obtain ⟨so66, ca67, rfl⟩ := xp (hM65.has 0 rfl)
      replace M : Mg w w68 (.row 21 1 (.slice so66 ((jb u.d.s.data.toList).length) ca67) ((jb u.d.s.data.toList).length) ((xl (jb u.d.s.data.toList))) :: .row 21 1 (.slice so61 ((jb t.d.s.data.toList).length) ca62) ((jb t.d.s.data.toList).length) ((xl (jb t.d.s.data.toList))) :: .obj g4 (.cells (u.d.cells u.ts.length).toArray 30) :: .obj g2 (.cells (t.d.cells t.ts.length).toArray 30) :: []) := (M.both hM65 (zn (by simp) (zn (by simp) (zn (by simp) (jc jg)))) (zn (by simp) (jc jg)))
      refine ⟨_, rfl, (M.sub (.cons _ (.cons _ (.cons_cons _ (.cons_cons _ (List.nil_sublist _)))))), ?_⟩
      intro a A
      refine qn (by kernel_rfl) (qw A 6 rfl rfl rfl rfl (qf rfl rfl (fun w => by kernel_rfl)) (qdi (xa := jb t.d.s.data.toList) (xb := jb u.d.s.data.toList) (yy M 1 rfl) (yy M 0 rfl) (yp _) (yp _) (by have := yq t.d.s; have := ya t; omega) (by have := yq u.d.s; have := ya u; omega)) ?_)
      rintro _ w70 ⟨rfl, hb69⟩
      replace M := M.call hb69
      refine ⟨_, rfl, (M.sub (.cons _ (.cons _ (.cons_cons _ (.cons_cons _ (List.nil_sublist _)))))), ?_⟩
      intro a A
      refine qg A 7 rfl rfl rfl rfl hP (M.sub (.cons _ (.cons _ (.cons_cons _ (.cons_cons _ (List.nil_sublist _)))))) (fun w1 M => zp rfl) λa A↦?_
      refine zi (by kernel_rfl) ?_
      refine hK58 _ _ (wp_ret (hret _ _ (en1 A rfl (qh rfl) ?_)))
      exact ⟨by
       rw [qkc ((jn gt).1.h5 (by omega)) ((jn gu).1.h5 (by omega)), kf (by omega)]
       repeat (first | rw [if_pos (by omega)] | rw [if_neg (by omega)]), M.bel⟩
     ·
      have hb57' := ne_of_beq_false hb57
      refine sdo (v := .bool false) A (qb rfl rfl (fun w => (ql w).trans (by rw [hb57]))) λa A↦?_
      refine sda A λa A↦?_
      refine qa (hK26 _ _ (wp_cond_false (A.ev rfl) ?_))
      refine wsk fun K71 hK71 => wrl ?_
      rcases tf ((t.d.k == 7)) with hb72 | hb72
      ·
       have hb72' := eq_of_beq hb72
       refine sdo (v := .bool true) A (qb rfl rfl (fun w => (ql w).trans (by rw [hb72]))) λa A↦?_
       refine sda A λa A↦?_
       refine qa (hK71 _ _ (wp_cond_true (A.ev rfl) ?_))
       refine wsk fun K73 hK73 => ja (S := fun w1 => Mg w w1 (.obj g4 (.cells (u.d.cells u.ts.length).toArray 30) :: .obj g2 (.cells (t.d.cells t.ts.length).toArray 30) :: [])) (by kernel_rfl) ?_
       replace M := M.drew
       refine qg (v := .pointer (some ⟨g2, 9, none⟩)) A 0 rfl rfl rfl rfl hP (M.sub (.cons_cons _ (.cons_cons _ (List.nil_sublist _)))) (fun w1 M => qe EqE_fld_30_4 rfl rfl) λa A↦?_
       refine qg A 1 rfl rfl rfl rfl hP (M.sub (.cons_cons _ (.cons_cons _ (List.nil_sublist _)))) (fun w1 M => qm M EqE_is1_27 rfl 1 rfl rfl) λa A↦?_
       refine qg (v := .pointer (some ⟨g4, 9, none⟩)) A 3 rfl rfl rfl rfl hP (M.sub (.cons_cons _ (.cons_cons _ (List.nil_sublist _)))) (fun w1 M => qe EqE_fld_30_4 rfl rfl) λa A↦?_
       refine qg A 4 rfl rfl rfl rfl hP (M.sub (.cons_cons _ (.cons_cons _ (List.nil_sublist _)))) (fun w1 M => qm M EqE_is1_27 rfl 0 rfl rfl) λa A↦?_
       refine qn (by kernel_rfl) (qw A 2 rfl rfl rfl rfl (qf rfl rfl (fun w => by kernel_rfl)) (rraw_any ((Dt.okT ht).1.raw.below M.bel) (by have := bulk_r t; omega)) ?_)
       rintro _ w78 ⟨v74, rfl, hM75⟩
       obtain ⟨so76, ca77, rfl⟩ := xp (hM75.has 0 rfl)
       replace M : Mg w w78 (.row 21 1 (.slice so76 ((vp t.d.rl).length) ca77) ((vp t.d.rl).length) ((xl (vp t.d.rl))) :: .obj g4 (.cells (u.d.cells u.ts.length).toArray 30) :: .obj g2 (.cells (t.d.cells t.ts.length).toArray 30) :: []) := (M.both hM75 (zn (by simp) (zn (by simp) (jc jg))) (zn (by simp) (jc jg)))
       refine ⟨_, rfl, (M.sub (.cons _ (.cons_cons _ (.cons_cons _ (List.nil_sublist _))))), ?_⟩
       intro a A
       refine qn (by kernel_rfl) (qw A 5 rfl rfl rfl rfl (qf rfl rfl (fun w => by kernel_rfl)) (rraw_any ((Dt.okT hu).1.raw.below M.bel) (by have := bulk_r u; omega)) ?_)
       rintro _ w83 ⟨v79, rfl, hM80⟩
       obtain ⟨so81, ca82, rfl⟩ := xp (hM80.has 0 rfl)
       replace M : Mg w w83 (.row 21 1 (.slice so81 ((vp u.d.rl).length) ca82) ((vp u.d.rl).length) ((xl (vp u.d.rl))) :: .row 21 1 (.slice so76 ((vp t.d.rl).length) ca77) ((vp t.d.rl).length) ((xl (vp t.d.rl))) :: .obj g4 (.cells (u.d.cells u.ts.length).toArray 30) :: .obj g2 (.cells (t.d.cells t.ts.length).toArray 30) :: []) := (M.both hM80 (zn (by simp) (zn (by simp) (zn (by simp) (jc jg)))) (zn (by simp) (jc jg)))
       refine ⟨_, rfl, (M.sub (.cons _ (.cons _ (.cons_cons _ (.cons_cons _ (List.nil_sublist _)))))), ?_⟩
       intro a A
       refine qn (by kernel_rfl) (qw A 6 rfl rfl rfl rfl (qf rfl rfl (fun w => by kernel_rfl)) (qdi (xa := vp t.d.rl) (xb := vp u.d.rl) (yy M 1 rfl) (yy M 0 rfl) (inR_raw _) (inR_raw _) (by unfold vp; rw [List.length_map]; have := bulk_r t; omega) (by unfold vp; rw [List.length_map]; have := bulk_r u; omega)) ?_)
       rintro _ w85 ⟨rfl, hb84⟩
       replace M := M.call hb84
       refine ⟨_, rfl, (M.sub (.cons _ (.cons _ (.cons_cons _ (.cons_cons _ (List.nil_sublist _)))))), ?_⟩
       intro a A
       refine qg A 7 rfl rfl rfl rfl hP (M.sub (.cons _ (.cons _ (.cons_cons _ (.cons_cons _ (List.nil_sublist _)))))) (fun w1 M => zp rfl) λa A↦?_
       refine zi (by kernel_rfl) ?_
       refine hK73 _ _ (wp_ret (hret _ _ (en1 A rfl (qh rfl) ?_)))
       exact ⟨by
        rw [row_raw, kf (by omega)]
        repeat (first | rw [if_pos (by omega)] | rw [if_neg (by omega)]), M.bel⟩
      ·
       have hb72' := ne_of_beq_false hb72
       refine sdo (v := .bool false) A (qb rfl rfl (fun w => (ql w).trans (by rw [hb72]))) λa A↦?_
       refine sda A λa A↦?_
       refine qa (hK71 _ _ (wp_cond_false (A.ev rfl) ?_))
       refine wsk fun K86 hK86 => wsk fun K87 hK87 => wrl ?_
       rcases tf ((t.d.k == 8)) with hb88 | hb88
       ·
        have hb88' := eq_of_beq hb88
        refine sdo (v := .bool true) A (qb rfl rfl (fun w => (ql w).trans (by rw [hb88]))) λa A↦?_
        refine sda A λa A↦?_
        refine qa (hK87 _ _ (wp_cond_true (A.ev rfl) ?_))
        refine wp_skip (hK86 _ _ (wp_cond_true (A.ev rfl) ?_))
        refine wsk fun K89 hK89 => wsk fun K90 hK90 => wrl (sdo (v := .pointer (some ⟨g2, 10, none⟩)) A (qe EqE_fld_30_5 rfl rfl) λa A↦?_)
        refine sdo A (qm M EqE_is1_28 rfl 1 rfl rfl) λa A↦?_
        refine sdo A (qt Tryz.underlying28 rfl) λa A↦?_
        refine sdo (v := .pointer (some ⟨g4, 10, none⟩)) A (qe EqE_fld_30_5 rfl rfl) λa A↦?_
        refine sdo A (qm M EqE_is1_28 rfl 0 rfl rfl) λa A↦?_
        refine sdo A (qt Tryz.underlying28 rfl) λa A↦?_
        rcases tf ((((t.ts.length : Nat) : Int) != ((u.ts.length : Nat) : Int))) with hb91 | hb91
        ·
         have hb91' := bne_iff_ne.1 hb91
         refine sdo (v := .bool true) A (qb rfl rfl (fun w => (qz w).trans (by rw [hb91]))) λa A↦?_
         refine qa (hK90 _ _ (wp_cond_true (A.ev rfl) ?_))
         refine wsk fun K92 hK92 => wrl (sdo (v := .pointer (some ⟨g2, 10, none⟩)) A (qe EqE_fld_30_5 rfl rfl) λa A↦?_)
         refine sdo A (qm M EqE_is1_28 rfl 1 rfl rfl) λa A↦?_
         refine sdo A (qt Tryz.underlying28 rfl) λa A↦?_
         refine sdo (v := .pointer (some ⟨g4, 10, none⟩)) A (qe EqE_fld_30_5 rfl rfl) λa A↦?_
         refine sdo A (qm M EqE_is1_28 rfl 0 rfl rfl) λa A↦?_
         refine sdo A (qt Tryz.underlying28 rfl) λa A↦?_
         refine qi A rfl rfl rfl (qf rfl rfl (fun w => by kernel_rfl)) (km) ?_
         rintro _ w94 ⟨rfl, hb93⟩
         replace M := M.call hb93
         refine ⟨_, rfl, ?_⟩
         intro a A
         refine sda A λa A↦?_
         refine qa (hK92 _ _ (wp_ret (hret _ _ (en1 A rfl (qh rfl) ?_))))
         exact ⟨by
          rw [kf (by omega)]
          iterate 4 (first | rw [if_pos (by omega)] | rw [if_neg (by omega)])
          rw [qde (fun e => hb91' (vk e))], M.bel⟩
        ·
         have hb91' := bne_eq_false_iff_eq.1 hb91
         refine sdo (v := .bool false) A (qb rfl rfl (fun w => (qz w).trans (by rw [hb91]))) λa A↦?_
         refine qa (hK90 _ _ (wp_cond_false (A.ev rfl) ?_))
         refine wp_skip (hK89 _ _ (wsk fun K95 hK95 => wsk fun K96 hK96 => wrl (sda A λa A↦?_)))
         refine qa (hK96 _ _ (wp_block ?_))
         have hov : xz t.tr u.tr = vz (t.ts.map Dt.tr) (u.ts.map Dt.tr) := by
          rw [kf (by omega), if_neg (by omega), if_neg (by omega), if_neg (by omega), if_pos (by omega), hb91', yk, qdd]
         refine jr (fun m_ a w1 => ∃ (i : Nat), m_ = 1 + (t.ts.length - i) ∧ (i ≤ t.ts.length ∧ vz (t.ts.map Dt.tr) (u.ts.map Dt.tr) = vz ((t.ts.map Dt.tr).drop i) ((u.ts.map Dt.tr).drop i)) ∧ Sl a 102 [(0, .agg (t.d.cells t.ts.length).toArray), (1, .agg (u.d.cells u.ts.length).toArray), (2, .pointer (some ⟨g2, 0, none⟩)), (3, .pointer (some ⟨g4, 0, none⟩)), (6, .int .i64 (((i : Nat) : Int))), (8, .pointer (some ⟨g2, 0, none⟩)), (9, .int .i64 t.d.k), (10, .pointer (some ⟨g4, 0, none⟩)), (11, .int .i64 u.d.k), (12, .bool false), (18, .pointer (some ⟨g2, 0, none⟩)), (19, .int .i64 t.d.k), (20, .bool false), (21, .bool false), (39, .bool false), (40, .bool false), (41, .bool false), (42, .bool false), (50, .bool false), (51, .bool false), (59, .bool true), (60, .bool true), (62, .pointer (some ⟨g2, 10, none⟩)), (63, .slice t.d.lo t.ts.length t.d.lc), (64, .int .i64 (((t.ts.length : Nat) : Int))), (65, .pointer (some ⟨g4, 10, none⟩)), (66, .slice u.d.lo u.ts.length u.d.lc), (67, .int .i64 (((u.ts.length : Nat) : Int))), (68, .bool false)] ∧ Mg w w1 (.obj g4 (.cells (u.d.cells u.ts.length).toArray 30) :: .obj g2 (.cells (t.d.cells t.ts.length).toArray 30) :: [])) _ ⟨0, rfl, ⟨Nat.zero_le _, rfl⟩, A.keep _ ⟨rfl, rfl, rfl, rfl, rfl, rfl, rfl, rfl, rfl, rfl, rfl, rfl, rfl, rfl, rfl, rfl, rfl, rfl, rfl, rfl, rfl, rfl, rfl, rfl, rfl, rfl, rfl, rfl, rfl, trivial⟩, M⟩ ?_
         clear M A
         rintro m_ a w97 ⟨i, rfl, hinv99, A, M⟩ K98 hK98
         obtain ⟨hi0, hin9⟩ := hinv99
         refine wsk fun K100 hK100 => wsk fun K101 hK101 => wrl (sdm A λa A↦?_)
         refine sdo (v := .pointer (some ⟨g2, 10, none⟩)) A (qe EqE_fld_30_5 rfl rfl) λa A↦?_
         refine sdo A (qm M EqE_is1_28 rfl 1 rfl rfl) λa A↦?_
         refine sdo A (qt Tryz.underlying28 rfl) λa A↦?_
         rcases tf (decide (((i : Nat) : Int) < ((t.ts.length : Nat) : Int))) with hb102 | hb102
         ·
          have hb102' := of_decide_eq_true hb102
          refine sdo (v := .bool true) A (qb rfl rfl (fun w => (zk w).trans (by rw [hb102]))) λa A↦?_
          refine qa (hK101 _ _ (wp_cond_true (A.ev rfl) ?_))
          refine wp_skip (hK100 _ _ (wsk fun K103 hK103 => wp_block (wsk fun K104 hK104 => ?_)))
          obtain ⟨t1, bt1, ot1, it1, mt1, rt1_, lt1, Ht1⟩ := qgf ht (i := i) (by omega)
          obtain ⟨u1, bu1, ou1, iu1, mu1, ru1_, lu1, Hu1⟩ := qgf hu (i := i) (by omega)
          refine ja (S := fun w1 => Mg w w1 (.obj g4 (.cells (u.d.cells u.ts.length).toArray 30) :: .obj g2 (.cells (t.d.cells t.ts.length).toArray 30) :: [])) (by kernel_rfl) ?_
          replace M := M.drew
          refine qg (v := .pointer (some ⟨g2, 10, none⟩)) A 0 rfl rfl rfl rfl hP (M.sub (.cons_cons _ (.cons_cons _ (List.nil_sublist _)))) (fun w1 M => qe EqE_fld_30_5 rfl rfl) λa A↦?_
          refine qg A 1 rfl rfl rfl rfl hP (M.sub (.cons_cons _ (.cons_cons _ (List.nil_sublist _)))) (fun w1 M => qm M EqE_is1_28 rfl 1 rfl rfl) λa A↦?_
          refine qg A 2 rfl rfl rfl rfl hP (M.sub (.cons_cons _ (.cons_cons _ (List.nil_sublist _)))) (fun w1 M => za rfl) λa A↦?_
          refine qg (v := .pointer (some ⟨bt1, ot1 + i * 11, none⟩)) A 3 rfl rfl rfl rfl hP (M.sub (.cons_cons _ (.cons_cons _ (List.nil_sublist _)))) (fun w1 M => zx (k := i) Tryz.underlying28 (by kernel_rfl) rfl rfl rfl lt1 (by omega)) λa A↦?_
          refine qg A 4 rfl rfl rfl rfl hP (M.sub (.cons_cons _ (.cons_cons _ (List.nil_sublist _)))) (fun w1 M => jt M Ht1 EqE_isS_30 rfl rfl) λa A↦?_
          refine qg (v := .pointer (some ⟨g4, 10, none⟩)) A 5 rfl rfl rfl rfl hP (M.sub (.cons_cons _ (.cons_cons _ (List.nil_sublist _)))) (fun w1 M => qe EqE_fld_30_5 rfl rfl) λa A↦?_
          refine qg A 6 rfl rfl rfl rfl hP (M.sub (.cons_cons _ (.cons_cons _ (List.nil_sublist _)))) (fun w1 M => qm M EqE_is1_28 rfl 0 rfl rfl) λa A↦?_
          refine qg A 7 rfl rfl rfl rfl hP (M.sub (.cons_cons _ (.cons_cons _ (List.nil_sublist _)))) (fun w1 M => za rfl) λa A↦?_
          refine qg (v := .pointer (some ⟨bu1, ou1 + i * 11, none⟩)) A 8 rfl rfl rfl rfl hP (M.sub (.cons_cons _ (.cons_cons _ (List.nil_sublist _)))) (fun w1 M => zx (k := i) Tryz.underlying28 (by kernel_rfl) rfl rfl rfl lu1 (by omega)) λa A↦?_
          refine qg A 9 rfl rfl rfl rfl hP (M.sub (.cons_cons _ (.cons_cons _ (List.nil_sublist _)))) (fun w1 M => jt M Hu1 EqE_isS_30 rfl rfl) λa A↦?_
          refine qn (by kernel_rfl) (qw A 10 rfl rfl rfl rfl (qf rfl rfl (fun w => by kernel_rfl)) (ih (by have := uq mt1; omega) (by have := uq mt1; omega) (by have := uq mu1; omega) (Dt.keep M.bel _ rt1_) (Dt.keep M.bel _ ru1_) ((jn gt).2.2 _ mt1) ((jn gu).2.2 _ mu1)) ?_)
          rintro _ w106 ⟨rfl, hb105⟩
          replace M := M.call hb105
          refine ⟨_, rfl, (M.sub (.cons_cons _ (.cons_cons _ (List.nil_sublist _)))), ?_⟩
          intro a A
          refine qg A 11 rfl rfl rfl rfl hP (M.sub (.cons_cons _ (.cons_cons _ (List.nil_sublist _)))) (fun w1 M => zp rfl) λa A↦?_
          refine zi (by kernel_rfl) ?_
          refine hK104 _ _ (wsk fun K107 hK107 => wrl (sdm A λa A↦?_))
          rcases tf ((xz t1.tr u1.tr != 0)) with hb108 | hb108
          ·
           have hb108' := bne_iff_ne.1 hb108
           refine sdo (v := .bool true) A (qb rfl rfl (fun w => (qz w).trans (by rw [hb108]))) λa A↦?_
           refine qa (hK107 _ _ (wp_cond_true (A.ev rfl) ?_))
           refine wsk fun K109 hK109 => wrl (sdm A λa A↦?_)
           refine sda A λa A↦?_
           refine qa (hK109 _ _ (wp_ret (hret _ _ (en1 A rfl (qh rfl) ?_))))
           exact ⟨by
            rw [hov, hin9, qba it1 iu1, qde hb108'], M.bel⟩
          ·
           have hb108' := bne_eq_false_iff_eq.1 hb108
           refine sdo (v := .bool false) A (qb rfl rfl (fun w => (qz w).trans (by rw [hb108]))) λa A↦?_
           refine qa (hK107 _ _ (wp_cond_false (A.ev rfl) ?_))
           refine wp_skip (hK103 _ _ (wrl (sdm A λa A↦?_)))
           refine sdo (v := .int .i64 (((i + 1 : Nat) : Int))) A (qb rfl rfl (fun w => (xj (vq (by omega) (by omega)) w).trans (by rw [show (((i : Nat) : Int) + 1 : Int) = ((i + 1 : Nat) : Int) from by omega]))) λa A↦?_
           refine sda A λa A↦?_
           refine qa ?_
           refine hK98 _ _ _ (by omega) ⟨i + 1, rfl, ⟨by omega, by rw [hin9, qba it1 iu1, hb108', qdd]⟩, A.keep _ ⟨rfl, rfl, rfl, rfl, rfl, rfl, rfl, rfl, rfl, rfl, rfl, rfl, rfl, rfl, rfl, rfl, rfl, rfl, rfl, rfl, rfl, rfl, rfl, rfl, rfl, rfl, rfl, rfl, rfl, trivial⟩, M⟩
         ·
          have hb102' := of_decide_eq_false hb102
          refine sdo (v := .bool false) A (qb rfl rfl (fun w => (zk w).trans (by rw [hb102]))) λa A↦?_
          refine qa (hK101 _ _ (wp_cond_false (A.ev rfl) ?_))
          refine wp_exit (hK95 _ _ (wsk fun K110 hK110 => wrl (sda A λa A↦?_)))
          refine qa (hK110 _ _ (wp_ret (hret _ _ (en1 A rfl (qh rfl) ?_))))
          exact ⟨by
           rw [hov, hin9, qii (by omega)], M.bel⟩
       ·
        have hb88' := ne_of_beq_false hb88
        refine sdo (v := .bool false) A (qb rfl rfl (fun w => (ql w).trans (by rw [hb88]))) λa A↦?_
        refine sda A λa A↦?_
        refine qa (hK87 _ _ (wp_cond_false (A.ev rfl) ?_))
        refine wrl ?_
        rcases tf ((t.d.k == 9)) with hb111 | hb111
        ·
         have hb111' := eq_of_beq hb111
         refine sdo (v := .bool true) A (qb rfl rfl (fun w => (ql w).trans (by rw [hb111]))) λa A↦?_
         refine sda A λa A↦?_
         refine qa (hK86 _ _ (wp_cond_true (A.ev rfl) ?_))
         refine wsk fun K112 hK112 => wsk fun K113 hK113 => wrl (sdo (v := .pointer (some ⟨g2, 10, none⟩)) A (qe EqE_fld_30_5 rfl rfl) λa A↦?_)
         refine sdo A (qm M EqE_is1_28 rfl 1 rfl rfl) λa A↦?_
         refine sdo A (qt Tryz.underlying28 rfl) λa A↦?_
         refine sdo (v := .pointer (some ⟨g4, 10, none⟩)) A (qe EqE_fld_30_5 rfl rfl) λa A↦?_
         refine sdo A (qm M EqE_is1_28 rfl 0 rfl rfl) λa A↦?_
         refine sdo A (qt Tryz.underlying28 rfl) λa A↦?_
         rcases tf ((((t.ts.length : Nat) : Int) != ((u.ts.length : Nat) : Int))) with hb114 | hb114
         ·
          have hb114' := bne_iff_ne.1 hb114
          refine sdo (v := .bool true) A (qb rfl rfl (fun w => (qz w).trans (by rw [hb114]))) λa A↦?_
          refine qa (hK113 _ _ (wp_cond_true (A.ev rfl) ?_))
          refine wsk fun K115 hK115 => wrl (sdo (v := .pointer (some ⟨g2, 10, none⟩)) A (qe EqE_fld_30_5 rfl rfl) λa A↦?_)
          refine sdo A (qm M EqE_is1_28 rfl 1 rfl rfl) λa A↦?_
          refine sdo A (qt Tryz.underlying28 rfl) λa A↦?_
          refine sdo (v := .pointer (some ⟨g4, 10, none⟩)) A (qe EqE_fld_30_5 rfl rfl) λa A↦?_
          refine sdo A (qm M EqE_is1_28 rfl 0 rfl rfl) λa A↦?_
          refine sdo A (qt Tryz.underlying28 rfl) λa A↦?_
          refine qi A rfl rfl rfl (qf rfl rfl (fun w => by kernel_rfl)) (km) ?_
          rintro _ w117 ⟨rfl, hb116⟩
          replace M := M.call hb116
          refine ⟨_, rfl, ?_⟩
          intro a A
          refine sda A λa A↦?_
          refine qa (hK115 _ _ (wp_ret (hret _ _ (en1 A rfl (qh rfl) ?_))))
          exact ⟨by
           rw [kf (by omega)]
           iterate 4 (first | rw [if_pos (by omega)] | rw [if_neg (by omega)])
           rw [qde (fun e => hb114' (vk e))], M.bel⟩
         ·
          have hb114' := bne_eq_false_iff_eq.1 hb114
          refine sdo (v := .bool false) A (qb rfl rfl (fun w => (qz w).trans (by rw [hb114]))) λa A↦?_
          refine qa (hK113 _ _ (wp_cond_false (A.ev rfl) ?_))
          refine wp_skip (hK112 _ _ (wsk fun K118 hK118 => wsk fun K119 hK119 => wrl (sda A λa A↦?_)))
          refine qa (hK119 _ _ (wp_block ?_))
          have hov : xz t.tr u.tr = vz (t.ts.map Dt.tr) (u.ts.map Dt.tr) := by
           rw [kf (by omega), if_neg (by omega), if_neg (by omega), if_neg (by omega), if_pos (by omega), hb114', yk, qdd]
          refine jr (fun m_ a w1 => ∃ (i : Nat), m_ = 1 + (t.ts.length - i) ∧ (i ≤ t.ts.length ∧ vz (t.ts.map Dt.tr) (u.ts.map Dt.tr) = vz ((t.ts.map Dt.tr).drop i) ((u.ts.map Dt.tr).drop i)) ∧ Sl a 102 [(0, .agg (t.d.cells t.ts.length).toArray), (1, .agg (u.d.cells u.ts.length).toArray), (2, .pointer (some ⟨g2, 0, none⟩)), (3, .pointer (some ⟨g4, 0, none⟩)), (6, .int .i64 (((i : Nat) : Int))), (8, .pointer (some ⟨g2, 0, none⟩)), (9, .int .i64 t.d.k), (10, .pointer (some ⟨g4, 0, none⟩)), (11, .int .i64 u.d.k), (12, .bool false), (18, .pointer (some ⟨g2, 0, none⟩)), (19, .int .i64 t.d.k), (20, .bool false), (21, .bool false), (39, .bool false), (40, .bool false), (41, .bool false), (42, .bool false), (50, .bool false), (51, .bool false), (59, .bool true), (60, .bool false), (61, .bool true), (62, .pointer (some ⟨g2, 10, none⟩)), (63, .slice t.d.lo t.ts.length t.d.lc), (64, .int .i64 (((t.ts.length : Nat) : Int))), (65, .pointer (some ⟨g4, 10, none⟩)), (66, .slice u.d.lo u.ts.length u.d.lc), (67, .int .i64 (((u.ts.length : Nat) : Int))), (68, .bool false)] ∧ Mg w w1 (.obj g4 (.cells (u.d.cells u.ts.length).toArray 30) :: .obj g2 (.cells (t.d.cells t.ts.length).toArray 30) :: [])) _ ⟨0, rfl, ⟨Nat.zero_le _, rfl⟩, A.keep _ ⟨rfl, rfl, rfl, rfl, rfl, rfl, rfl, rfl, rfl, rfl, rfl, rfl, rfl, rfl, rfl, rfl, rfl, rfl, rfl, rfl, rfl, rfl, rfl, rfl, rfl, rfl, rfl, rfl, rfl, rfl, trivial⟩, M⟩ ?_
          clear M A
          rintro m_ a w120 ⟨i, rfl, hinv122, A, M⟩ K121 hK121
          obtain ⟨hi0, hin9⟩ := hinv122
          refine wsk fun K123 hK123 => wsk fun K124 hK124 => wrl (sdm A λa A↦?_)
          refine sdo (v := .pointer (some ⟨g2, 10, none⟩)) A (qe EqE_fld_30_5 rfl rfl) λa A↦?_
          refine sdo A (qm M EqE_is1_28 rfl 1 rfl rfl) λa A↦?_
          refine sdo A (qt Tryz.underlying28 rfl) λa A↦?_
          rcases tf (decide (((i : Nat) : Int) < ((t.ts.length : Nat) : Int))) with hb125 | hb125
          ·
           have hb125' := of_decide_eq_true hb125
           refine sdo (v := .bool true) A (qb rfl rfl (fun w => (zk w).trans (by rw [hb125]))) λa A↦?_
           refine qa (hK124 _ _ (wp_cond_true (A.ev rfl) ?_))
           refine wp_skip (hK123 _ _ (wsk fun K126 hK126 => wp_block (wsk fun K127 hK127 => ?_)))
           obtain ⟨t1, bt1, ot1, it1, mt1, rt1_, lt1, Ht1⟩ := qgf ht (i := i) (by omega)
           obtain ⟨u1, bu1, ou1, iu1, mu1, ru1_, lu1, Hu1⟩ := qgf hu (i := i) (by omega)
           refine ja (S := fun w1 => Mg w w1 (.obj g4 (.cells (u.d.cells u.ts.length).toArray 30) :: .obj g2 (.cells (t.d.cells t.ts.length).toArray 30) :: [])) (by kernel_rfl) ?_
           replace M := M.drew
           refine qg (v := .pointer (some ⟨g2, 10, none⟩)) A 0 rfl rfl rfl rfl hP (M.sub (.cons_cons _ (.cons_cons _ (List.nil_sublist _)))) (fun w1 M => qe EqE_fld_30_5 rfl rfl) λa A↦?_
           refine qg A 1 rfl rfl rfl rfl hP (M.sub (.cons_cons _ (.cons_cons _ (List.nil_sublist _)))) (fun w1 M => qm M EqE_is1_28 rfl 1 rfl rfl) λa A↦?_
           refine qg A 2 rfl rfl rfl rfl hP (M.sub (.cons_cons _ (.cons_cons _ (List.nil_sublist _)))) (fun w1 M => za rfl) λa A↦?_
           refine qg (v := .pointer (some ⟨bt1, ot1 + i * 11, none⟩)) A 3 rfl rfl rfl rfl hP (M.sub (.cons_cons _ (.cons_cons _ (List.nil_sublist _)))) (fun w1 M => zx (k := i) Tryz.underlying28 (by kernel_rfl) rfl rfl rfl lt1 (by omega)) λa A↦?_
           refine qg A 4 rfl rfl rfl rfl hP (M.sub (.cons_cons _ (.cons_cons _ (List.nil_sublist _)))) (fun w1 M => jt M Ht1 EqE_isS_30 rfl rfl) λa A↦?_
           refine qg (v := .pointer (some ⟨g4, 10, none⟩)) A 5 rfl rfl rfl rfl hP (M.sub (.cons_cons _ (.cons_cons _ (List.nil_sublist _)))) (fun w1 M => qe EqE_fld_30_5 rfl rfl) λa A↦?_
           refine qg A 6 rfl rfl rfl rfl hP (M.sub (.cons_cons _ (.cons_cons _ (List.nil_sublist _)))) (fun w1 M => qm M EqE_is1_28 rfl 0 rfl rfl) λa A↦?_
           refine qg A 7 rfl rfl rfl rfl hP (M.sub (.cons_cons _ (.cons_cons _ (List.nil_sublist _)))) (fun w1 M => za rfl) λa A↦?_
           refine qg (v := .pointer (some ⟨bu1, ou1 + i * 11, none⟩)) A 8 rfl rfl rfl rfl hP (M.sub (.cons_cons _ (.cons_cons _ (List.nil_sublist _)))) (fun w1 M => zx (k := i) Tryz.underlying28 (by kernel_rfl) rfl rfl rfl lu1 (by omega)) λa A↦?_
           refine qg A 9 rfl rfl rfl rfl hP (M.sub (.cons_cons _ (.cons_cons _ (List.nil_sublist _)))) (fun w1 M => jt M Hu1 EqE_isS_30 rfl rfl) λa A↦?_
           refine qn (by kernel_rfl) (qw A 10 rfl rfl rfl rfl (qf rfl rfl (fun w => by kernel_rfl)) (ih (by have := uq mt1; omega) (by have := uq mt1; omega) (by have := uq mu1; omega) (Dt.keep M.bel _ rt1_) (Dt.keep M.bel _ ru1_) ((jn gt).2.2 _ mt1) ((jn gu).2.2 _ mu1)) ?_)
           rintro _ w129 ⟨rfl, hb128⟩
           replace M := M.call hb128
           refine ⟨_, rfl, (M.sub (.cons_cons _ (.cons_cons _ (List.nil_sublist _)))), ?_⟩
           intro a A
           refine qg A 11 rfl rfl rfl rfl hP (M.sub (.cons_cons _ (.cons_cons _ (List.nil_sublist _)))) (fun w1 M => zp rfl) λa A↦?_
           refine zi (by kernel_rfl) ?_
           refine hK127 _ _ (wsk fun K130 hK130 => wrl (sdm A λa A↦?_))
           rcases tf ((xz t1.tr u1.tr != 0)) with hb131 | hb131
           ·
            have hb131' := bne_iff_ne.1 hb131
            refine sdo (v := .bool true) A (qb rfl rfl (fun w => (qz w).trans (by rw [hb131]))) λa A↦?_
            refine qa (hK130 _ _ (wp_cond_true (A.ev rfl) ?_))
            refine wsk fun K132 hK132 => wrl (sdm A λa A↦?_)
            refine sda A λa A↦?_
            refine qa (hK132 _ _ (wp_ret (hret _ _ (en1 A rfl (qh rfl) ?_))))
            exact ⟨by
             rw [hov, hin9, qba it1 iu1, qde hb131'], M.bel⟩
           ·
            have hb131' := bne_eq_false_iff_eq.1 hb131
            refine sdo (v := .bool false) A (qb rfl rfl (fun w => (qz w).trans (by rw [hb131]))) λa A↦?_
            refine qa (hK130 _ _ (wp_cond_false (A.ev rfl) ?_))
            refine wp_skip (hK126 _ _ (wrl (sdm A λa A↦?_)))
            refine sdo (v := .int .i64 (((i + 1 : Nat) : Int))) A (qb rfl rfl (fun w => (xj (vq (by omega) (by omega)) w).trans (by rw [show (((i : Nat) : Int) + 1 : Int) = ((i + 1 : Nat) : Int) from by omega]))) λa A↦?_
            refine sda A λa A↦?_
            refine qa ?_
            refine hK121 _ _ _ (by omega) ⟨i + 1, rfl, ⟨by omega, by rw [hin9, qba it1 iu1, hb131', qdd]⟩, A.keep _ ⟨rfl, rfl, rfl, rfl, rfl, rfl, rfl, rfl, rfl, rfl, rfl, rfl, rfl, rfl, rfl, rfl, rfl, rfl, rfl, rfl, rfl, rfl, rfl, rfl, rfl, rfl, rfl, rfl, rfl, rfl, trivial⟩, M⟩
          ·
           have hb125' := of_decide_eq_false hb125
           refine sdo (v := .bool false) A (qb rfl rfl (fun w => (zk w).trans (by rw [hb125]))) λa A↦?_
           refine qa (hK124 _ _ (wp_cond_false (A.ev rfl) ?_))
           refine wp_exit (hK118 _ _ (wsk fun K133 hK133 => wrl (sda A λa A↦?_)))
           refine qa (hK133 _ _ (wp_ret (hret _ _ (en1 A rfl (qh rfl) ?_))))
           exact ⟨by
            rw [hov, hin9, qii (by omega)], M.bel⟩
        ·
         have hb111' := ne_of_beq_false hb111
         refine sdo (v := .bool false) A (qb rfl rfl (fun w => (ql w).trans (by rw [hb111]))) λa A↦?_
         refine sda A λa A↦?_
         refine qa (hK86 _ _ (wp_cond_false (A.ev rfl) ?_))
         refine wp_skip (hK12 _ _ (wsk fun K134 hK134 => wrl (sdo (v := .pointer (some ⟨g2, 1, none⟩)) A (qe EqE_fld_30_1 rfl rfl) λa A↦?_)))
         refine sdo A (qm M EqE_is1_3 rfl 1 rfl rfl) λa A↦?_
         refine sdo (v := .pointer (some ⟨g4, 1, none⟩)) A (qe EqE_fld_30_1 rfl rfl) λa A↦?_
         refine sdo A (qm M EqE_is1_3 rfl 0 rfl rfl) λa A↦?_
         refine qi A rfl rfl rfl (qf rfl rfl (fun w => by kernel_rfl)) (km) ?_
         rintro _ w136 ⟨rfl, hb135⟩
         replace M := M.call hb135
         refine ⟨_, rfl, ?_⟩
         intro a A
         refine sda A λa A↦?_
         refine qa (hK134 _ _ (wp_ret (hret _ _ (en1 A rfl (qh rfl) ?_))))
         exact ⟨by
          rw [kf (by omega)]
          repeat (first | rw [if_pos (by omega)] | rw [if_neg (by omega)]), M.bel⟩
theorem qgd : ∀ n, ROrders n
 | 0 => fun h => absurd h (Nat.not_lt_zero _)
 | n + 1 => rorders_step (qgd n)
end Go.Proofs.YtabjlejolmmeeaaGreatDoor.G
