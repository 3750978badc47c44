/- Walks of rows of texts: collected, sorted, copied. Walks of sets: where, sound, membership, members. Walks of the calls of enum. Walks of what a type may be, of types that are the same, and of copies. Records: what the calls answer, case by case. Walks of what is asked of a store. Records: what calls have made kb as it is; a store as pieces of memory. Walks of what changes a store. Walks of calls on a store that are refused, and of calls on nil. Records: what is so of a store kb so. Calls on a store, by its state. Bare data: characters and truth values. Walks of the law of a nil store. Walks of what the document says of sets, and of the law. Walks of lists that are taken apart. Walks of the document's sameness and order of numbers. The same trees. -/
import Derived.Test.YtokgmpjblnpjmaaGreatDoorPrecord11f
import Derived.Test.YtokgmpjblnpjmaaGreatDoorPrecord11c
namespace Go.Proofs.YtokgmpjblnpjmaaGreatDoor.G.E
open Go.RowKit Go.Lib Go.Sort
set_option linter.unusedVariables false
set_option linter.unusedSimpArgs false
set_option maxRecDepth 100000
theorem EnA_is1_9 : Is1 Tryz.prog 9 := ⟨⟨_, Tryz.underlying9, rfl⟩, by kernel_rfl⟩
theorem qyh {w : World} {Bs : Nat} {so : Option Addr} {ca : Nat} {l : List ByteArray} (hR : Rs w so l) (hBs : w.cell? ⟨Bs, 0, none⟩ = some (.slice so l.length ca)) (hl : l.length ≤ 8796093021952) : Calls Tryz.prog 98 #[.func (.func 100) #[] [pA Bs 0].toArray] w fun e w' => ∃ so' ca', e = .returned (.slice so' l.length ca') ∧ Mg w w' [.row 9 1 (.slice so' l.length ca') l.length (strC l)] := by
 have M : Mg w w ([]) := Mg.start w
 refine qs (l := [(0, .func (.func 100) #[] [pA Bs 0].toArray)]) Tryz.func98 rfl Tryz.ntmps98 rfl rfl ?_
 intro Q hret hnorm hP a A
 refine wsk fun K1 hK1 => wrl (sda A λa A↦?_)
 refine qa (hK1 _ _ (wsk fun K2 hK2 => wrl (sdm A λa A↦?_)))
 refine sct A (ef rfl rfl) (qqc (hR.below M.bel) ((M.bel.cell (un hBs)).trans hBs) hl) ?_
 rintro _ w7 ⟨v3, rfl, hM4⟩
 obtain ⟨so5, ca6, rfl⟩ := jg (hM4.has 0 rfl)
 replace M : Mg w w7 (.row 9 1 (.slice so5 l.length ca6) l.length (strC l) :: []) := (M.both hM4 (qk qm) (qi (by simp) (qk qm)))
 refine ⟨_, rfl, ?_⟩
 intro a A
 refine sda A λa A↦?_
 refine qa (hK2 _ _ (wp_ret (hret _ _ (en1 A rfl (qf rfl) ?_))))
 replace M : Mg w w7 (.row 9 1 (.slice so5 l.length ca6) l.length (strC l) :: []) := by
  have h9 := M.sub (cc (.refl _))
  exact h9
 exact ⟨_, _, rfl, M⟩
theorem zdf {w : World} {Bs : Nat} {so : Option Addr} {ca : Nat} {l : List ByteArray} (hR : Rs w so l) (hBs : w.cell? ⟨Bs, 0, none⟩ = some (.slice so l.length ca)) (hl : l.length ≤ 8796093021952) : Calls Tryz.prog 89 #[.func (.func 100) #[] [pA Bs 0].toArray] w fun e w' => ∃ so' ca', e = .returned (.slice so' l.length ca') ∧ Mg w w' [.row 9 1 (.slice so' l.length ca') l.length ((qda (byL l)).map encStr)] := by
 have M : Mg w w ([]) := Mg.start w
 refine qs (l := [(0, .func (.func 100) #[] [pA Bs 0].toArray)]) Tryz.func89 rfl Tryz.ntmps89 rfl rfl ?_
 intro Q hret hnorm hP a A
 refine wsk fun K1 hK1 => wrl (sda A λa A↦?_)
 refine qa (hK1 _ _ (wsk fun K2 hK2 => wrl (sdm A λa A↦?_)))
 refine sct A (ef rfl rfl) (qyh (hR.below M.bel) ((M.bel.cell (un hBs)).trans hBs) hl) ?_
 rintro _ w6 ⟨so3, ca4, rfl, hM5⟩
 replace M : Mg w w6 (.row 9 1 (.slice so3 l.length ca4) l.length (strC l) :: []) := (M.both hM5 (qk qm) (qi (by simp) (qk qm)))
 refine ⟨_, rfl, ?_⟩
 intro a A
 refine sda A λa A↦?_
 refine qa (hK2 _ _ (wsk fun K7 hK7 => wrl (sdm A λa A↦?_)))
 replace M : Mg w w6 (.row 9 1 (.slice so3 l.length ca4) l.length ((byL l).map encStr) :: []) := by rw [zti]; exact M
 refine sct A (ef rfl rfl) (zkb (zs := byL l) (by simp [byL]) (by simpa [byL] using hl) M) ?_
 rintro _ w9 ⟨rfl, hM8⟩
 replace M : Mg w w9 (.row 9 1 (.slice so3 l.length ca4) l.length ((qda (byL l)).map encStr) :: []) := hM8
 refine ⟨_, rfl, ?_⟩
 intro a A
 refine qa (hK7 _ _ (wsk fun K10 hK10 => wrl (sdm A λa A↦?_)))
 refine sda A λa A↦?_
 refine qa (hK10 _ _ (wp_ret (hret _ _ (en1 A rfl (qf rfl) ?_))))
 replace M : Mg w w9 (.row 9 1 (.slice so3 l.length ca4) l.length ((qda (byL l)).map encStr) :: []) := by
  have h9 := M.sub (cc (.refl _))
  exact h9
 exact ⟨_, _, rfl, M⟩
theorem qif {w : World} {so : Option Addr} {ca : Nat} {l : List ByteArray} (hR : Rs w so l) (hl : l.length ≤ 8796093021952) : Calls Tryz.prog 78 #[.slice so l.length ca] w fun e w' => e = .returned (bV (twS l)) ∧ Below w.heap.size w w' := by
 have M : Mg w w ([]) := Mg.start w
 refine qs (l := [(0, .slice so l.length ca)]) Tryz.func78 rfl Tryz.ntmps78 rfl rfl ?_
 intro Q hret hnorm hP a A
 refine wsk fun K1 hK1 => wrl (sda A λa A↦?_)
 refine qa (hK1 _ _ (wsk fun K2 hK2 => wrl (sdm A λa A↦?_)))
 refine sct A (ef rfl rfl) (zde) ?_
 rintro _ w5 ⟨g3, rfl, hM4⟩
 replace M : Mg w w5 (.obj g3 (.cells #[.slice so l.length ca] 30) :: []) := (M.both hM4 (qk qm) (qi (by simp) (qk qm)))
 refine ⟨_, rfl, ?_⟩
 intro a A
 refine sct A (ef rfl rfl) (zdf (hR.below M.bel) (M.cell 0 rfl 0 rfl) hl) ?_
 rintro _ w9 ⟨so6, ca7, rfl, hM8⟩
 replace M : Mg w w9 (.row 9 1 (.slice so6 l.length ca7) l.length ((qda (byL l)).map encStr) :: .obj g3 (.cells #[.slice so l.length ca] 30) :: []) := (M.both hM8 (qi (by simp) (qk qm)) (qi (by simp) (qk qm)))
 refine ⟨_, rfl, ?_⟩
 intro a A
 refine sda A λa A↦?_
 refine qa (hK2 _ _ (wsk fun K10 hK10 => wrl (sdm A λa A↦?_)))
 refine sct A (ef rfl rfl) (qvd (zs := qda (byL l)) (by simp [qda, byL]) (by simpa [qda, byL] using hl) M) ?_
 rintro _ w12 ⟨rfl, hM11⟩
 replace M : Mg w w12 (.obj g3 (.cells #[.slice so l.length ca] 30) :: []) := hM11
 refine ⟨_, rfl, ?_⟩
 intro a A
 refine sdo A (qn Tryz.underlying30 rfl) λa A↦?_
 refine sdm A λa A↦?_
 refine sdo A (qn Tryz.underlying30 rfl) λa A↦?_
 refine sdo (v := bV (decide ((((compact (qda (byL l))).length : Nat) : Int) < ((l.length : Nat) : Int)))) A (qg rfl rfl qw) λa A↦?_
 refine sda A λa A↦?_
 refine qa (hK10 _ _ (wp_ret (hret _ _ (en1 A rfl (qf rfl) ?_))))
 refine ⟨?_, M.bel⟩
 rw [← qua l]
 congr 2
 exact decide_eq_decide.2 Int.ofNat_lt
theorem zwi {w : World} {so : Option Addr} {ca : Nat} {l : List ByteArray} (hR : Rs w so l) (hl : l.length ≤ 8796093021952) : Calls Tryz.prog 71 #[.slice so l.length ca] w fun e w' => ∃ v, e = .returned v ∧ Mg w w' [.row 9 1 v l.length (strC l)] := by
 have M : Mg w w ([]) := Mg.start w
 refine qs (l := [(0, .slice so l.length ca)]) Tryz.func71 rfl Tryz.ntmps71 rfl rfl ?_
 intro Q hret hnorm hP a A
 refine wsk fun K1 hK1 => wrl (sda A λa A↦?_)
 refine qa (hK1 _ _ (wsk fun K2 hK2 => wrl (sdm A λa A↦?_)))
 replace M := M.nilRow (qk qm) 9 1
 refine jo (e := 9) (sz := 1) (k := 0) (q := 0) (m := l.length) (xs := []) (news := strC l) (L' := fun v3 => (.row 9 1 (v3) (0 + l.length) ([] ++ strC l) :: [])) A rfl rfl rfl (xb (z := .string ⟨#[]⟩) (sz := 1) (by_ := 16) Tryz.underlying30 (by kernel_rfl) rfl rfl rfl M 0 rfl rfl rfl (zxj l) (hR.below M.bel) (zoa l) (by omega)) (fun _ => rfl) ?_
 intro v3 w4 M a A
 refine sda A λa A↦?_
 refine qa (hK2 _ _ (wp_ret (hret _ _ (en1 A rfl (qf rfl) ?_))))
 exact ⟨_, rfl, by rw [Nat.zero_add, List.nil_append] at M; exact M⟩
theorem clone_any {w : World} {s : ByteArray} (hs : s.size ≤ 281474976710656) : Calls Tryz.prog 52 #[.string s] w fun e w' => e = .returned (.string s) ∧ Below w.heap.size w w' := by
 have M : Mg w w ([]) := Mg.start w
 refine qs (l := [(0, .string s)]) Tryz.func52 rfl Tryz.ntmps52 rfl rfl ?_
 intro Q hret hnorm hP a A
 refine wsk fun K1 hK1 => wrl (sda A λa A↦?_)
 refine qa (hK1 _ _ (wsk fun K2 hK2 => wrl (sdm A λa A↦?_)))
 refine gcl A M (ef rfl rfl) (Tryz.stringslite_Clone s _ hs) fun w3 hb1 M a A => ?_
 refine sda A λa A↦?_
 refine qa (hK2 _ _ (wp_ret (hret _ _ (en1 A rfl (qf rfl) ?_))))
 exact ⟨rfl, M.bel⟩
theorem zkc {l : List ByteArray} {i : Nat} {s : ByteArray} (h : l[i]? = some s) : (strC l).set i (.string s) = strC l := by
 apply List.ext_getElem?
 intro j
 rw [List.getElem?_set]
 by_cases e : i = j
 ·
  subst e
  have h2 := (List.getElem?_eq_some_iff.1 h).1
  rw [if_pos rfl, if_pos (by simpa [strC] using h2)]
  simp [strC, h]
 ·
  rw [if_neg e]
theorem zdg {w : World} {so : Option Addr} {ca : Nat} {l : List ByteArray} (hR : Rs w so l) (hl : l.length ≤ 8796093021952) (hs : ∀ s ∈ l, s.size ≤ 281474976710656) (hne : l ≠ []) : Calls Tryz.prog 53 #[.slice so l.length ca] w fun e w' => ∃ so' ca', e = .returned (.slice so' l.length ca') ∧ Mg w w' [.row 9 1 (.slice so' l.length ca') l.length (strC l)] := by
 have M : Mg w w ([]) := Mg.start w
 refine qs (l := [(0, .slice so l.length ca)]) Tryz.func53 rfl Tryz.ntmps53 rfl rfl ?_
 intro Q hret hnorm hP a A
 refine wsk fun K1 hK1 => wrl (sda A λa A↦?_)
 refine qa (hK1 _ _ (wsk fun K2 hK2 => wrl (sdm A λa A↦?_)))
 refine sct A (ef rfl rfl) (zwi (hR.below M.bel) hl) ?_
 rintro _ w4 ⟨v9, rfl, hM3⟩
 obtain ⟨g9, c9, rfl⟩ := qli (hM3.has 0 rfl) (fun k => hne (List.length_eq_zero_iff.1 k))
 replace M : Mg w w4 (.row 9 1 (.slice (aO g9) l.length c9) l.length (strC l) :: []) := hM3
 refine ⟨_, rfl, ?_⟩
 intro a A
 refine sda A λa A↦?_
 refine qa (hK2 _ _ (wsk fun K5 hK5 => wsk fun K6 hK6 => wrl (sdm A λa A↦?_)))
 refine sdo A (qn Tryz.underlying30 rfl) λa A↦?_
 refine sdm A λa A↦?_
 refine qa (hK6 _ _ (wp_block (zt (fun m_ a w1 => ∃ (i : Nat), m_ = 1 + (l.length - i) ∧ (i ≤ l.length) ∧ Sl a 22 [(0, .slice so l.length ca), (2, .slice none 0 0), (3, .slice (aO g9) l.length c9), (6, .slice so l.length ca), (7, .slice (aO g9) l.length c9), (8, .slice (aO g9) l.length c9), (9, iV (((l.length : Nat) : Int))), (10, iV (((i : Nat) : Int)))] ∧ Mg w w1 (.row 9 1 (.slice (aO g9) l.length c9) l.length (strC l) :: [])) _ ⟨0, rfl, Nat.zero_le _, A.keep _ (by repeat' constructor), M⟩ ?_)))
 clear M A
 rintro m_ a w7 ⟨i, rfl, hinv9, A, M⟩ K8 hK8
 have hi0 := hinv9
 refine wsk fun K10 hK10 => wrl ?_
 rcases tf (decide (((i : Nat) : Int) < ((l.length : Nat) : Int))) with hb11 | hb11
 ·
  have hb11' := of_decide_eq_true hb11
  refine sdc A qw hb11 λa A↦?_
  refine qa (hK10 _ _ (wsk fun K12 hK12 => wp_cond_true (A.ev rfl) ?_))
  refine wp_skip (hK12 _ _ (wsk fun K13 hK13 => wp_block (wsk fun K14 hK14 => ?_)))
  obtain ⟨s9, it9⟩ : ∃ s, l[i]? = some s := ⟨l[i], List.getElem?_eq_getElem (by omega)⟩
  refine wrl (sdm A λa A↦?_)
  refine sdo (v := pA g9 (i * 1)) A (xp (k := i) Tryz.underlying30 (by kernel_rfl) rfl rfl (by first | rfl | omega) (by first | omega | decide)) λa A↦?_
  refine sdo A (qtb M 0 rfl (show (strC l)[i * 1]? = some (.string s9) by rw [Nat.mul_one]; simp [strC, it9]) EnA_is1_9 rfl) λa A↦?_
  iterate 2 refine sda A λa A↦?_
  refine qa (hK14 _ _ (wrl ?_))
  iterate 3 refine sdm A λa A↦?_
  refine gcl A M (ef rfl rfl) (clone_any (hs _ (List.mem_of_getElem? it9))) fun w15 hb9 M a A => ?_
  refine sdo (v := pA g9 (i * 1)) A (xp (k := i) Tryz.underlying30 (by kernel_rfl) rfl rfl (by first | rfl | omega) (by first | omega | decide)) λa A↦?_
  refine qwj (us := []) (L' := (.row 9 1 (.slice (aO g9) l.length c9) l.length (strC l) :: [])) A M rfl rfl (qfe (cs := [.string s9]) rfl rfl rfl (by kernel_rfl) M 0 rfl (by show _ + 1 ≤ _; omega) rfl) 0 rfl (by rw [qya (by rw [Nat.mul_one]; simp [strC]; omega), Nat.mul_one, zkc it9]; rfl) ?_
  intro w16 M
  refine qa (hK13 _ _ (wrl (sdo (v := iV (((i + 1 : Nat) : Int))) A (qg rfl rfl (ar_add ((in_i64 (by omega) (by omega)).trans (by omega)))) λa A↦?_)))
  refine sdm A λa A↦?_
  refine qa ?_
  refine hK8 _ _ _ (by omega) ⟨i + 1, rfl, by omega, A.keep _ (by repeat' constructor), M⟩
 ·
  have hb11' := of_decide_eq_false hb11
  refine sdc A qw hb11 λa A↦?_
  refine qa (hK10 _ _ (wsk fun K17 hK17 => wp_cond_false (A.ev rfl) ?_))
  refine wp_exit (hK5 _ _ (wsk fun K18 hK18 => wrl (sdm A λa A↦?_)))
  refine sda A λa A↦?_
  refine qa (hK18 _ _ (wp_ret (hret _ _ (en1 A rfl (qf rfl) ?_))))
  exact ⟨_, _, rfl, M⟩
theorem zkd {w : World} {so : Option Addr} {ca : Nat} : Calls Tryz.prog 53 #[.slice so ([] : List ByteArray).length ca] w fun e w' => ∃ so' ca', e = .returned (.slice so' ([] : List ByteArray).length ca') ∧ Mg w w' [.row 9 1 (.slice so' ([] : List ByteArray).length ca') ([] : List ByteArray).length (strC [])] := by
 have M : Mg w w ([]) := Mg.start w
 refine qs (l := [(0, .slice so (([] : List ByteArray).length) ca)]) Tryz.func53 rfl Tryz.ntmps53 rfl rfl ?_
 intro Q hret hnorm hP a A
 refine wsk fun K1 hK1 => wrl (sda A λa A↦?_)
 refine qa (hK1 _ _ (wsk fun K2 hK2 => wrl (sdm A λa A↦?_)))
 refine sct A (ef rfl rfl) (zwi (l := []) rs_nil (by decide)) ?_
 rintro _ w4 ⟨v9, rfl, hM3⟩
 obtain ⟨so9, c9, rfl⟩ := jg (hM3.has 0 rfl)
 replace M : Mg w w4 (.row 9 1 (.slice so9 (([] : List ByteArray).length) c9) (([] : List ByteArray).length) (strC []) :: []) := hM3
 refine ⟨_, rfl, ?_⟩
 intro a A
 refine sda A λa A↦?_
 refine qa (hK2 _ _ (wsk fun K5 hK5 => wsk fun K6 hK6 => wrl (sdm A λa A↦?_)))
 refine sdo A (qn Tryz.underlying30 rfl) λa A↦?_
 refine sdm A λa A↦?_
 refine qa (hK6 _ _ (wp_block (wp_loop_rounds 12 ?_)))
 refine qla fun K7 hK7 => ?_
 refine wsk fun K8 hK8 => wrl (sdo (v := bV false) A (qg rfl rfl (fun w => (qw w).trans (by rw [show (decide (0 < ((([] : List ByteArray).length : Nat) : Int))) = false from (by rfl)]))) λa A↦?_)
 refine qa (hK8 _ _ (wsk fun K9 hK9 => wp_cond_false (A.ev rfl) ?_))
 refine wp_exit (hK5 _ _ (wsk fun K10 hK10 => wrl (sdm A λa A↦?_)))
 refine sda A λa A↦?_
 refine qa (hK10 _ _ (wp_ret (hret _ _ (en1 A rfl (qf rfl) ?_))))
 exact ⟨_, _, rfl, M⟩
theorem texts_any {w : World} {so : Option Addr} {ca : Nat} {l : List ByteArray} (hR : Rs w so l) (hl : l.length ≤ 8796093021952) (hs : ∀ s ∈ l, s.size ≤ 281474976710656) : Calls Tryz.prog 53 #[.slice so l.length ca] w fun e w' => ∃ so' ca', e = .returned (.slice so' l.length ca') ∧ Mg w w' [.row 9 1 (.slice so' l.length ca') l.length (strC l)] := by
 by_cases h : l = []
 ·
  subst h; exact zkd
 ·
  exact zdg hR hl hs h
theorem EnB_is1_9 : Is1 Tryz.prog 9 := ⟨⟨_, Tryz.underlying9, rfl⟩, by kernel_rfl⟩
theorem EnB_isS_111 : IsS Tryz.prog 111 2 := ⟨⟨_, Tryz.underlying111⟩, by kernel_rfl⟩
theorem zdh (m : Nat) : (madeCells (Value.bool false).cells (m * 1)).toList = boolC (List.replicate m false) := by
 apply List.ext_getElem?
 intro j
 by_cases hj : j < m
 ·
  simp [madeCells, boolC, Value.cells, hj, List.getElem?_replicate, Nat.mod_one]
 ·
  simp [madeCells, boolC, Value.cells, hj, List.getElem?_replicate]
theorem zke (bs : List Bool) (i : Nat) (b : Bool) (h : i < bs.length) : over (boolC bs) (i * 1) [bV b] = boolC (bs.set i b) := by
 rw [qya (by rw [Nat.mul_one]; simpa [boolC] using h), Nat.mul_one]
 simp [boolC, List.map_set]
/-- What stands where so many were asked. -/
def qed (p : ByteArray → Bool) (l : List ByteArray) (i : Nat) : List Bool := (l.take i).map p ++ List.replicate (l.length - i) false
theorem zpb (p : ByteArray → Bool) (l : List ByteArray) {i : Nat} (h : i ≤ l.length) : (qed p l i).length = l.length := by
 unfold qed
 rw [List.length_append, List.length_map, List.length_take, List.length_replicate]
 omega
theorem zkf {p : ByteArray → Bool} {l : List ByteArray} {i : Nat} {s : ByteArray} (h : l[i]? = some s) : (qed p l i).set i (p s) = qed p l (i + 1) := by
 have hi := (List.getElem?_eq_some_iff.1 h).1
 unfold qed
 rw [List.set_append_right _ _ (by rw [List.length_map, List.length_take]; omega), List.length_map, List.length_take, Nat.min_eq_left (by omega), Nat.sub_self, List.take_add_one, h, Option.toList_some, List.map_append, List.append_assoc, show l.length - i = (l.length - (i + 1)) + 1 by omega, List.replicate_succ]
 rfl
theorem zkg {p : ByteArray → Bool} {l : List ByteArray} {i : Nat} (h : l.length ≤ i) : qed p l i = l.map p := by
 unfold qed
 rw [List.take_of_length_le h, show l.length - i = 0 by omega]
 simp
theorem zkh {w : World} {so : Option Addr} {ca : Nat} {l : List ByteArray} (hR : Rs w so l) (hl : l.length ≤ 8796093021952) (hs : ∀ s ∈ l, s.size ≤ 281474976710656) {f : FuncId} {cs : List Value} {p : ByteArray → Bool} (hF : AskS Tryz.prog f cs w p) : Calls Tryz.prog 79 #[.slice so l.length ca, .func (.func f) #[] cs.toArray] w fun e w' => ∃ so' ca' si' ci', e = .returned (.agg #[.slice so' l.length ca', .slice si' l.length ci']) ∧ Mg w w' [.row 9 1 (.slice so' l.length ca') l.length (strC l), .row 4 1 (.slice si' l.length ci') l.length (boolC (l.map p))] := by
 have M : Mg w w ([]) := Mg.start w
 refine qs (l := [(0, .slice so l.length ca), (1, .func (.func f) #[] cs.toArray)]) Tryz.func79 rfl Tryz.ntmps79 rfl rfl ?_
 intro Q hret hnorm hP a A
 refine wsk fun K1 hK1 => wrl (zy (vs := [.slice none 0 0, .slice none 0 0]) (t := 111) A M rfl rfl rfl pg (zv (z := .agg #[.slice none 0 0, .slice none 0 0]) (by kernel_rfl) rfl) (by decide) ?_)
 intro g2 w3 M a A
 refine qa (hK1 _ _ (wsk fun K4 hK4 => wrl (sdm A λa A↦?_)))
 refine sdo A (qn Tryz.underlying30 rfl) λa A↦?_
 refine zsh (z := bV false) (sz := 1) (by_ := 1) (m := l.length) A M Tryz.underlying31 (by kernel_rfl) rfl rfl rfl rfl rfl rfl (by omega) (by omega) (.inl (by decide)) ?_
 intro g5 w6 M a A
 replace M : Mg w w6 (.row 4 1 (.slice (aO g5) l.length l.length) l.length (boolC (List.replicate l.length false)) :: .obj g2 (.cells #[.slice none 0 0, .slice none 0 0] 111) :: []) := by rw [← zdh]; exact M
 refine sda A λa A↦?_
 refine qa (hK4 _ _ (wsk fun K7 hK7 => wsk fun K8 hK8 => wrl (sdm A λa A↦?_)))
 refine sdo A (qn Tryz.underlying30 rfl) λa A↦?_
 refine sdm A λa A↦?_
 refine qa (hK8 _ _ (wp_block ?_))
 replace M : Mg w w6 (.row 4 1 (.slice (aO g5) l.length l.length) l.length (boolC (qed p l 0)) :: .obj g2 (.cells #[.slice none 0 0, .slice none 0 0] 111) :: []) := by rw [show qed p l 0 = List.replicate l.length false by simp [qed]]; exact M
 refine zt (fun m_ a w1 => ∃ (i : Nat), m_ = 1 + (l.length - i) ∧ (i ≤ l.length) ∧ Sl a 29 [(0, .slice so l.length ca), (1, .func (.func f) #[] cs.toArray), (4, pA g2 0), (5, .slice (aO g5) l.length l.length), (8, .slice so l.length ca), (9, iV (((l.length : Nat) : Int))), (10, .slice (aO g5) l.length l.length), (11, .slice so l.length ca), (12, iV (((l.length : Nat) : Int))), (13, iV (((i : Nat) : Int)))] ∧ Mg w w1 (.row 4 1 (.slice (aO g5) l.length l.length) l.length (boolC (qed p l i)) :: .obj g2 (.cells #[.slice none 0 0, .slice none 0 0] 111) :: [])) _ ⟨0, rfl, Nat.zero_le _, A.keep _ (by repeat' constructor), M⟩ ?_
 clear M A
 rintro m_ a w9 ⟨i, rfl, hinv11, A, M⟩ K10 hK10
 have hi0 := hinv11
 refine wsk fun K12 hK12 => wrl ?_
 rcases tf (decide (((i : Nat) : Int) < ((l.length : Nat) : Int))) with hb13 | hb13
 ·
  have hb13' := of_decide_eq_true hb13
  refine sdc A qw hb13 λa A↦?_
  refine qa (hK12 _ _ (wsk fun K14 hK14 => wp_cond_true (A.ev rfl) ?_))
  refine wp_skip (hK14 _ _ (wsk fun K15 hK15 => wp_block (wsk fun K16 hK16 => wrl (sdm A λa A↦?_))))
  obtain ⟨bx17, ox18, sx19, hs20, hc21, hi22⟩ := hR.at_ (i := i) (by omega)
  refine sdo (v := pA bx17 (ox18 + i)) A (zk (k := i) Tryz.underlying30 (by kernel_rfl) rfl rfl (by first | rfl | omega) hs20 (by omega)) λa A↦?_
  refine sdo A (m_loadX M hc21 EnB_is1_9 rfl) λa A↦?_
  iterate 2 refine sda A λa A↦?_
  refine qa (hK16 _ _ (wrl ?_))
  iterate 4 refine sdm A λa A↦?_
  refine xw A rfl rfl rfl (kh rfl rfl hF.inv) (hF.run sx19 _ M.bel) ?_
  rintro _ w24 ⟨rfl, hb23⟩
  replace M := M.call hb23
  refine ⟨_, rfl, ?_⟩
  intro a A
  refine sdo (v := pA g5 (i * 1)) A (xp (k := i) Tryz.underlying31 (by kernel_rfl) rfl rfl (by first | rfl | omega) (by first | omega | decide)) λa A↦?_
  refine qwj (us := []) (L' := (.row 4 1 (.slice (aO g5) l.length l.length) l.length (boolC (qed p l (i + 1))) :: .obj g2 (.cells #[.slice none 0 0, .slice none 0 0] 111) :: [])) A M rfl rfl (qfe (cs := [bV (p sx19)]) rfl rfl rfl (by kernel_rfl) M 0 rfl (by show _ + 1 ≤ _; omega) rfl) 0 rfl (by rw [zke _ _ _ (by rw [zpb p l (by omega)]; omega), zkf hi22]; rfl) ?_
  intro w25 M
  refine qa (hK15 _ _ (wrl (sdo (v := iV (((i + 1 : Nat) : Int))) A (qg rfl rfl (ar_add ((in_i64 (by omega) (by omega)).trans (by omega)))) λa A↦?_)))
  refine sdm A λa A↦?_
  refine qa ?_
  refine hK10 _ _ _ (by omega) ⟨i + 1, rfl, by omega, A.keep _ (by repeat' constructor), M⟩
 ·
  have hb13' := of_decide_eq_false hb13
  refine sdc A qw hb13 λa A↦?_
  refine qa (hK12 _ _ (wsk fun K26 hK26 => wp_cond_false (A.ev rfl) ?_))
  refine wp_exit (hK7 _ _ (wsk fun K27 hK27 => wrl (sdm A λa A↦?_)))
  refine sct A (ef rfl rfl) (texts_any (hR.below M.bel) hl hs) ?_
  rintro _ w31 ⟨so28, ca29, rfl, hM30⟩
  replace M : Mg w w31 (.row 9 1 (.slice so28 l.length ca29) l.length (strC l) :: .row 4 1 (.slice (aO g5) l.length l.length) l.length (boolC (qed p l i)) :: .obj g2 (.cells #[.slice none 0 0, .slice none 0 0] 111) :: []) := (M.both hM30 (qi (by simp) (qi (by simp) (qk qm))) (qi (by simp) (qk qm)))
  refine ⟨_, rfl, ?_⟩
  intro a A
  refine sdm A λa A↦?_
  refine sdo (v := .agg #[.slice so28 l.length ca29, .slice (aO g5) l.length l.length]) A (jb rfl (fun w => by kernel_rfl)) λa A↦?_
  refine zq (L' := (.row 9 1 (.slice so28 l.length ca29) l.length (strC l) :: .row 4 1 (.slice (aO g5) l.length l.length) l.length (boolC (qed p l i)) :: .obj g2 (.cells #[.slice so28 l.length ca29, .slice (aO g5) l.length l.length] 111) :: [])) A M rfl rfl (za rfl rfl rfl (by kernel_rfl) M 2 rfl rfl rfl) 2 rfl rfl rfl ?_
  intro w32 M
  refine qa (hK27 _ _ (wp_ret (hret _ _ (en1 A rfl (zu M EnB_isS_111 rfl 2 rfl (cs := [.slice so28 l.length ca29, .slice (aO g5) l.length l.length]) rfl rfl) ?_))))
  replace M : Mg w w32 (.row 9 1 (.slice so28 l.length ca29) l.length (strC l) :: .row 4 1 (.slice (aO g5) l.length l.length) l.length (boolC (qed p l i)) :: []) := by
   have h9 := M.sub (cc (cc (cn (.refl _))))
   exact h9
  rw [zkg (show l.length ≤ i by omega)] at M
  exact ⟨_, _, _, _, rfl, M⟩
theorem EnC_isS_111 : IsS Tryz.prog 111 2 := ⟨⟨_, Tryz.underlying111⟩, by kernel_rfl⟩
theorem zpc {w : World} {s : ByteArray} : Calls Tryz.prog 80 #[.string s] w fun e w' => e = .returned (bV true) ∧ Below w.heap.size w w' := by
 have M : Mg w w ([]) := Mg.start w
 refine qs (l := [(0, .string s)]) Tryz.func80 rfl Tryz.ntmps80 rfl rfl ?_
 intro Q hret hnorm hP a A
 refine wsk fun K1 hK1 => wrl (sda A λa A↦?_)
 refine qa (hK1 _ _ (wsk fun K2 hK2 => wrl (sda A λa A↦?_)))
 refine qa (hK2 _ _ (wp_ret (hret _ _ (en1 A rfl (qf rfl) ?_))))
 exact ⟨rfl, M.bel⟩
theorem zpd {w : World} : AskS Tryz.prog 80 [] w (fun _ => true) := ⟨fun us w => by kernel_rfl, fun s w1 hb => zpc⟩
theorem new_twice {w : World} {so : Option Addr} {ca : Nat} {l : List ByteArray} (hR : Rs w so l) (hl : l.length ≤ 8796093021952) (ht : twS l = true) : Calls Tryz.prog 67 #[.slice so l.length ca] w fun e w' => e = .returned (.tuple #[.agg #[.slice none 0 0, .slice none 0 0], iV 8]) ∧ Below w.heap.size w w' := by
 have M : Mg w w ([]) := Mg.start w
 refine qs (l := [(0, .slice so l.length ca)]) Tryz.func67 rfl Tryz.ntmps67 rfl rfl ?_
 intro Q hret hnorm hP a A
 refine wsk fun K1 hK1 => wrl (zy (vs := [.slice none 0 0, .slice none 0 0]) (t := 111) A M rfl rfl rfl pg (zv (z := .agg #[.slice none 0 0, .slice none 0 0]) (by kernel_rfl) rfl) (by decide) ?_)
 intro g2 w3 M a A
 refine sda A λa A↦?_
 refine qa (hK1 _ _ (wsk fun K4 hK4 => wp_block (wsk fun K5 hK5 => wrl (sdm A λa A↦?_))))
 refine gcl A M (ef rfl rfl) ((ht ▸ qif (hR.below M.bel) (by omega))) fun w7 hb6 M a A => ?_
 refine sda A λa A↦?_
 refine qa (hK5 _ _ (wp_cond_true (A.ev rfl) ?_))
 refine wsk fun K8 hK8 => wrl (sdo (v := .agg #[.slice none 0 0, .slice none 0 0]) A (jb rfl (fun w => by kernel_rfl)) λa A↦?_)
 refine zq (L' := (.obj g2 (.cells #[.slice none 0 0, .slice none 0 0] 111) :: [])) A M rfl rfl (za rfl rfl rfl (by kernel_rfl) M 0 rfl rfl rfl) 0 rfl rfl rfl ?_
 intro w9 M
 refine sda A λa A↦?_
 refine qa (hK8 _ _ (wp_ret (hret _ _ (en2 A rfl (zu M EnC_isS_111 rfl 0 rfl (cs := [.slice none 0 0, .slice none 0 0]) rfl rfl) (qf rfl) ?_))))
 exact ⟨rfl, M.bel⟩
theorem new_large {w : World} {so : Option Addr} {ca : Nat} {l : List ByteArray} (hR : Rs w so l) (hl : l.length ≤ 8796093021952) (ht : twS l = false) (h64 : 64 < l.length) : Calls Tryz.prog 67 #[.slice so l.length ca] w fun e w' => e = .returned (.tuple #[.agg #[.slice none 0 0, .slice none 0 0], iV 4]) ∧ Below w.heap.size w w' := by
 have M : Mg w w ([]) := Mg.start w
 refine qs (l := [(0, .slice so l.length ca)]) Tryz.func67 rfl Tryz.ntmps67 rfl rfl ?_
 intro Q hret hnorm hP a A
 refine wsk fun K1 hK1 => wrl (zy (vs := [.slice none 0 0, .slice none 0 0]) (t := 111) A M rfl rfl rfl pg (zv (z := .agg #[.slice none 0 0, .slice none 0 0]) (by kernel_rfl) rfl) (by decide) ?_)
 intro g2 w3 M a A
 refine sda A λa A↦?_
 refine qa (hK1 _ _ (wsk fun K4 hK4 => wp_block (wsk fun K5 hK5 => wrl (sdm A λa A↦?_))))
 refine gcl A M (ef rfl rfl) ((ht ▸ qif (hR.below M.bel) (by omega))) fun w7 hb6 M a A => ?_
 refine sda A λa A↦?_
 refine qa (hK5 _ _ (wp_cond_false (A.ev rfl) ?_))
 refine wsk fun K8 hK8 => wrl (sdm A λa A↦?_)
 refine sdo A (qn Tryz.underlying30 rfl) λa A↦?_
 refine sdo (v := bV true) A (qg rfl rfl (fun w => (jk w).trans (by rw [show (decide (64 < ((l.length : Nat) : Int))) = true from (decide_eq_true (by omega))]))) λa A↦?_
 refine sda A λa A↦?_
 refine qa (hK8 _ _ (wp_cond_true (A.ev rfl) ?_))
 refine wsk fun K9 hK9 => wrl (sdo (v := .agg #[.slice none 0 0, .slice none 0 0]) A (jb rfl (fun w => by kernel_rfl)) λa A↦?_)
 refine zq (L' := (.obj g2 (.cells #[.slice none 0 0, .slice none 0 0] 111) :: [])) A M rfl rfl (za rfl rfl rfl (by kernel_rfl) M 0 rfl rfl rfl) 0 rfl rfl rfl ?_
 intro w10 M
 refine sda A λa A↦?_
 refine qa (hK9 _ _ (wp_ret (hret _ _ (en2 A rfl (zu M EnC_isS_111 rfl 0 rfl (cs := [.slice none 0 0, .slice none 0 0]) rfl rfl) (qf rfl) ?_))))
 exact ⟨rfl, M.bel⟩
theorem new_ok {w : World} {so : Option Addr} {ca : Nat} {l : List ByteArray} (hR : Rs w so l) (hs : ∀ s ∈ l, s.size ≤ 281474976710656) (ht : twS l = false) (h64 : l.length ≤ 64) : Calls Tryz.prog 67 #[.slice so l.length ca] w fun e w' => ∃ so' ca' si' ci', e = .returned (.tuple #[.agg #[.slice so' l.length ca', .slice si' l.length ci'], iV 0]) ∧ Mg w w' [.row 9 1 (.slice so' l.length ca') l.length (strC l), .row 4 1 (.slice si' l.length ci') l.length (boolC (l.map fun _ => true))] := by
 have M : Mg w w ([]) := Mg.start w
 refine qs (l := [(0, .slice so l.length ca)]) Tryz.func67 rfl Tryz.ntmps67 rfl rfl ?_
 intro Q hret hnorm hP a A
 refine wsk fun K1 hK1 => wrl (zy (vs := [.slice none 0 0, .slice none 0 0]) (t := 111) A M rfl rfl rfl pg (zv (z := .agg #[.slice none 0 0, .slice none 0 0]) (by kernel_rfl) rfl) (by decide) ?_)
 intro g2 w3 M a A
 refine sda A λa A↦?_
 refine qa (hK1 _ _ (wsk fun K4 hK4 => wp_block (wsk fun K5 hK5 => wrl (sdm A λa A↦?_))))
 refine gcl A M (ef rfl rfl) ((ht ▸ qif (hR.below M.bel) (by omega))) fun w7 hb6 M a A => ?_
 refine sda A λa A↦?_
 refine qa (hK5 _ _ (wp_cond_false (A.ev rfl) ?_))
 refine wsk fun K8 hK8 => wrl (sdm A λa A↦?_)
 refine sdo A (qn Tryz.underlying30 rfl) λa A↦?_
 refine sdo (v := bV false) A (qg rfl rfl (fun w => (jk w).trans (by rw [show (decide (64 < ((l.length : Nat) : Int))) = false from (decide_eq_false (by omega))]))) λa A↦?_
 refine sda A λa A↦?_
 refine qa (hK8 _ _ (wp_cond_false (A.ev rfl) ?_))
 refine wp_skip (hK4 _ _ (wsk fun K9 hK9 => wrl (sdm A λa A↦?_)))
 refine sct A (ef rfl rfl) (zkh (hR.below M.bel) (by omega) hs (cs := []) zpd) ?_
 rintro _ w15 ⟨so10, ca11, si12, ci13, rfl, hM14⟩
 replace M : Mg w w15 (.row 9 1 (.slice so10 l.length ca11) l.length (strC l) :: .row 4 1 (.slice si12 l.length ci13) l.length (boolC (l.map (fun _ => true))) :: .obj g2 (.cells #[.slice none 0 0, .slice none 0 0] 111) :: []) := (M.both hM14 (qi (by simp) (qk qm)) (qi (by simp) (qi (by simp) (qk qm))))
 refine ⟨_, rfl, ?_⟩
 intro a A
 refine zq (L' := (.row 9 1 (.slice so10 l.length ca11) l.length (strC l) :: .row 4 1 (.slice si12 l.length ci13) l.length (boolC (l.map (fun _ => true))) :: .obj g2 (.cells #[.slice so10 l.length ca11, .slice si12 l.length ci13] 111) :: [])) A M rfl rfl (za rfl rfl rfl (by kernel_rfl) M 2 rfl rfl rfl) 2 rfl rfl rfl ?_
 intro w16 M
 refine sda A λa A↦?_
 refine qa (hK9 _ _ (wp_ret (hret _ _ (en2 A rfl (zu M EnC_isS_111 rfl 2 rfl (cs := [.slice so10 l.length ca11, .slice si12 l.length ci13]) rfl rfl) (qf rfl) ?_))))
 replace M : Mg w w16 (.row 9 1 (.slice so10 l.length ca11) l.length (strC l) :: .row 4 1 (.slice si12 l.length ci13) l.length (boolC (l.map (fun _ => true))) :: []) := by
  have h9 := M.sub (cc (cc (cn (.refl _))))
  exact h9
 exact ⟨_, _, _, _, rfl, M⟩
end Go.Proofs.YtokgmpjblnpjmaaGreatDoor.G.E
namespace Go.Proofs.YtokgmpjblnpjmaaGreatDoor.G
open Go.RowKit
set_option linter.unusedVariables false
set_option linter.unusedSimpArgs false
set_option maxRecDepth 100000
theorem qgf {w : World} {so : Option Addr} {ca : Nat} {l : List ByteArray} (hR : E.Rs w so l) (hl : l.length ≤ 2000000) (hs : ∀ s ∈ l, s.size ≤ 281474976710656) : Calls Tryz.prog 48 #[.slice so l.length ca] w fun e w' => e = .returned (bV (E.twS l)) ∧ Below w.heap.size w w' := by
 have M : Mg w w ([]) := Mg.start w
 refine qs (l := [(0, .slice so l.length ca)]) Tryz.func48 rfl Tryz.ntmps48 rfl rfl ?_
 intro Q hret hnorm hP a A
 refine wsk fun K1 hK1 => wrl (sda A λa A↦?_)
 refine qa (hK1 _ _ (wsk fun K2 hK2 => wrl (sdm A λa A↦?_)))
 rcases tf (E.twS l) with hb4 | hb4
 ·
  refine gcl A M (ef rfl rfl) (E.new_twice (hR.below M.bel) (by omega) hb4) fun w6 hb5 M a A => ?_
  refine sdm A λa A↦?_
  iterate 2 refine sdo A (zb (vs := [.agg #[.slice none 0 0, .slice none 0 0], iV 8]) rfl rfl) λa A↦?_
  refine zy (vs := [.slice none 0 0, .slice none 0 0]) (t := 111) A M rfl rfl rfl pg (zv (z := .agg #[.slice none 0 0, .slice none 0 0]) (by kernel_rfl) rfl) (by decide) ?_
  intro g7 w8 M a A
  refine zq (L' := (.obj g7 (.cells #[.slice none 0 0, .slice none 0 0] 111) :: [])) A M rfl rfl (za rfl rfl rfl (by kernel_rfl) M 0 rfl rfl rfl) 0 rfl rfl rfl ?_
  intro w9 M
  refine sda A λa A↦?_
  refine qa (hK2 _ _ (wsk fun K10 hK10 => wrl (sdm A λa A↦?_)))
  refine sdo (v := bV true) A (qg rfl rfl (fun w => by kernel_rfl)) λa A↦?_
  refine sda A λa A↦?_
  refine qa (hK10 _ _ (wp_ret (hret _ _ (en1 A rfl (qf rfl) ?_))))
  exact ⟨by rw [hb4], M.bel⟩
 ·
  rcases tf (decide (64 < l.length)) with hb12 | hb12
  ·
   have hb12' := of_decide_eq_true hb12
   refine gcl A M (ef rfl rfl) (E.new_large (hR.below M.bel) (by omega) hb4 (of_decide_eq_true hb12)) fun w14 hb13 M a A => ?_
   refine sdm A λa A↦?_
   iterate 2 refine sdo A (zb (vs := [.agg #[.slice none 0 0, .slice none 0 0], iV 4]) rfl rfl) λa A↦?_
   refine zy (vs := [.slice none 0 0, .slice none 0 0]) (t := 111) A M rfl rfl rfl pg (zv (z := .agg #[.slice none 0 0, .slice none 0 0]) (by kernel_rfl) rfl) (by decide) ?_
   intro g15 w16 M a A
   refine zq (L' := (.obj g15 (.cells #[.slice none 0 0, .slice none 0 0] 111) :: [])) A M rfl rfl (za rfl rfl rfl (by kernel_rfl) M 0 rfl rfl rfl) 0 rfl rfl rfl ?_
   intro w17 M
   refine sda A λa A↦?_
   refine qa (hK2 _ _ (wsk fun K18 hK18 => wrl (sdm A λa A↦?_)))
   refine sdo (v := bV false) A (qg rfl rfl (fun w => by kernel_rfl)) λa A↦?_
   refine sda A λa A↦?_
   refine qa (hK18 _ _ (wp_ret (hret _ _ (en1 A rfl (qf rfl) ?_))))
   exact ⟨by rw [hb4], M.bel⟩
  ·
   have hb12' := of_decide_eq_false hb12
   refine sct A (ef rfl rfl) (E.new_ok (hR.below M.bel) hs hb4 (by have := of_decide_eq_false hb12; omega)) ?_
   rintro _ w20 ⟨s1, c1, s2, c2, rfl, hb19⟩
   replace M := M.call hb19.bel
   refine ⟨_, rfl, ?_⟩
   intro a A
   refine sdm A λa A↦?_
   iterate 2 refine sdo A (zb (vs := [.agg #[.slice s1 l.length c1, .slice s2 l.length c2], iV 0]) rfl rfl) λa A↦?_
   refine zy (vs := [.slice none 0 0, .slice none 0 0]) (t := 111) A M rfl rfl rfl pg (zv (z := .agg #[.slice none 0 0, .slice none 0 0]) (by kernel_rfl) rfl) (by decide) ?_
   intro g21 w22 M a A
   refine zq (L' := (.obj g21 (.cells #[.slice s1 l.length c1, .slice s2 l.length c2] 111) :: [])) A M rfl rfl (za rfl rfl rfl (by kernel_rfl) M 0 rfl rfl rfl) 0 rfl rfl rfl ?_
   intro w23 M
   refine sda A λa A↦?_
   refine qa (hK2 _ _ (wsk fun K24 hK24 => wrl (sdm A λa A↦?_)))
   refine sdo (v := bV false) A (qg rfl rfl (fun w => by kernel_rfl)) λa A↦?_
   refine sda A λa A↦?_
   refine qa (hK24 _ _ (wp_ret (hret _ _ (en1 A rfl (qf rfl) ?_))))
   exact ⟨by rw [hb4], M.bel⟩
theorem zdi {w : World} {b tc rc : Nat} {tz ro : Option Addr} {ts : List Ty} {rs : List Rk} (V : SR w b tz tc ts ro rc rs) (hW : WS (ts.map Ty.k) (rs.map Rk.k)) {u : Ty} (hU : TyR w u) (hul : u.fs.length ≤ 2000000) (huz : ∀ s ∈ u.fs, s.size ≤ 281474976710656) : Calls Tryz.prog 25 #[pA b 0, .agg u.c.toArray] w fun e w' => e = .returned (bV (gdB ts.length u.k)) ∧ Below w.heap.size w w' := by
 have M : Mg w w ([]) := Mg.start w
 refine qs (l := [(0, pA b 0), (1, .agg u.c.toArray)]) Tryz.func25 rfl Tryz.ntmps25 rfl rfl ?_
 intro Q hret hnorm hP a A
 refine wsk fun K1 hK1 => wrl (zy (vs := u.c) (t := 33) A M rfl rfl rfl pg (zf rfl rfl) (by decide) ?_)
 intro g2 w3 M a A
 refine sda A λa A↦?_
 refine qa (hK1 _ _ (wsk fun K4 hK4 => wrl (sdo (v := pA g2 3) A (qb kk rfl rfl) λa A↦?_)))
 refine sdo A (qh M qic rfl 0 rfl rfl) λa A↦?_
 refine sdo A (qn Tryz.underlying31 rfl) λa A↦?_
 refine sdo (v := pA g2 2) A (qb xu rfl rfl) λa A↦?_
 refine sdo A (qh M qai rfl 0 rfl rfl) λa A↦?_
 refine sdo A (qn Tryz.underlying30 rfl) λa A↦?_
 rcases tf ((((u.ms.length : Nat) : Int) == ((u.fs.length : Nat) : Int))) with hb5 | hb5
 ·
  have hb5' := eq_of_beq hb5
  refine sdc A qr hb5 λa A↦?_
  refine sdm A λa A↦?_
  refine sdo (v := pA g2 2) A (qb xu rfl rfl) λa A↦?_
  refine sdo A (qh M qai rfl 0 rfl rfl) λa A↦?_
  rcases tf (E.twS u.fs) with hb6 | hb6
  ·
   refine gcl A M (ef rfl rfl) ((hb6 ▸ qgf (hU.f.below M.bel) hul huz)) fun w8 hb7 M a A => ?_
   refine sdo (v := bV false) A (zi rfl zm) λa A↦?_
   refine sdk (v := bV false) A λa A↦?_
   refine sdm A λa A↦?_
   iterate 4 refine qj A rfl rfl rfl λa A↦?_
   iterate 5 refine ki A rfl rfl rfl λa A↦?_
   refine qj A rfl rfl rfl λa A↦?_
   refine sdk (v := bV false) A λa A↦?_
   refine sda A λa A↦?_
   refine qa (hK4 _ _ (wp_ret (hret _ _ (en1 A rfl (qf rfl) ?_))))
   exact ⟨by rw [qbd (n := ts.length) (k := u.k) (.inr (.inl hb6))], M.bel⟩
  ·
   refine gcl A M (ef rfl rfl) ((hb6 ▸ qgf (hU.f.below M.bel) hul huz)) fun w10 hb9 M a A => ?_
   refine sdo (v := bV true) A (zi rfl zm) λa A↦?_
   refine sdk (v := bV true) A λa A↦?_
   refine sdm A λa A↦?_
   refine sdo (v := pA g2 1) A (qb ju rfl rfl) λa A↦?_
   refine sdo A (qh M o93 rfl 0 rfl rfl) λa A↦?_
   rcases tf ((u.par == -1)) with hb11 | hb11
   ·
    have hb11' := eq_of_beq hb11
    refine sdc A qr hb11 λa A↦?_
    refine sdm A λa A↦?_
    iterate 5 refine qj A rfl rfl rfl λa A↦?_
    iterate 2 refine sdk (v := bV true) A λa A↦?_
    refine sda A λa A↦?_
    refine qa (hK4 _ _ (wp_ret (hret _ _ (en1 A rfl (qf rfl) ?_))))
    exact ⟨by rw [zod (n := ts.length) (k := u.k) (show u.ms.length = u.fs.length by omega) hb6 (show -1 ≤ u.par by omega) (show u.par < _ by omega)], M.bel⟩
   ·
    have hb11' := ne_of_beq_false hb11
    refine sdc A qr hb11 λa A↦?_
    iterate 2 refine sdm A λa A↦?_
    refine sdo (v := pA g2 1) A (qb ju rfl rfl) λa A↦?_
    refine sdo A (qh M o93 rfl 0 rfl rfl) λa A↦?_
    rcases tf (okT ts.length u.par) with hb12 | hb12
    ·
     have hx14 := ke hb12
     refine gcl A M (ef rfl rfl) (vp (V.below M.bel) hW hb12) fun w15 hb13 M a A => ?_
     refine sdo (v := bV true) A (qg rfl rfl (fun w => by kernel_rfl)) λa A↦?_
     iterate 2 refine sdk (v := bV true) A λa A↦?_
     refine sda A λa A↦?_
     refine qa (hK4 _ _ (wp_ret (hret _ _ (en1 A rfl (qf rfl) ?_))))
     exact ⟨by rw [zod (n := ts.length) (k := u.k) (show u.ms.length = u.fs.length by omega) hb6 (show -1 ≤ u.par by omega) (show u.par < _ by omega)], M.bel⟩
    ·
     have hx17 := qgb hb12
     refine gcl A M (ef rfl rfl) (kv (V.below M.bel) hW hb12) fun w18 hb16 M a A => ?_
     refine sdo (v := bV false) A (qg rfl rfl (fun w => by kernel_rfl)) λa A↦?_
     iterate 2 refine sdk (v := bV false) A λa A↦?_
     refine sda A λa A↦?_
     refine qa (hK4 _ _ (wp_ret (hret _ _ (en1 A rfl (qf rfl) ?_))))
     exact ⟨by rw [qbd (n := ts.length) (k := u.k) (.inr (.inr (show u.par < -1 ∨ ((ts.length : Nat) : Int) ≤ u.par by omega)))], M.bel⟩
 ·
  have hb5' := ne_of_beq_false hb5
  refine sdc A qr hb5 λa A↦?_
  refine sdm A λa A↦?_
  iterate 4 refine qj A rfl rfl rfl λa A↦?_
  refine sdk (v := bV false) A λa A↦?_
  refine sdm A λa A↦?_
  iterate 4 refine qj A rfl rfl rfl λa A↦?_
  iterate 5 refine ki A rfl rfl rfl λa A↦?_
  refine qj A rfl rfl rfl λa A↦?_
  refine sdk (v := bV false) A λa A↦?_
  refine sda A λa A↦?_
  refine qa (hK4 _ _ (wp_ret (hret _ _ (en1 A rfl (qf rfl) ?_))))
  exact ⟨by rw [qbd (n := ts.length) (k := u.k) (.inl (show u.ms.length ≠ u.fs.length by omega))], M.bel⟩
theorem qig {w : World} {b tc rc : Nat} {tz ro : Option Addr} {ts : List Ty} {rs : List Rk} (V : SR w b tz tc ts ro rc rs) (hW : WS (ts.map Ty.k) (rs.map Rk.k)) {u : Ty} (hU : TyR w u) (hul : u.fs.length ≤ 2000000) (huz : ∀ s ∈ u.fs, s.size ≤ 281474976710656) {v : Bool} (h : gdB ts.length u.k = v) : Calls Tryz.prog 25 #[pA b 0, .agg u.c.toArray] w fun e w' => e = .returned (bV v) ∧ Below w.heap.size w w' := h ▸ zdi V hW hU hul huz
theorem qnj {w : World} {so so2 : Option Addr} {ca ca2 : Nat} {l l2 : List Bool} (hR : E.Rl w so l) (hR2 : E.Rl w so2 l2) (hl : l.length ≤ 2000000) (hl2 : l2.length ≤ 1000000000) : Calls Tryz.prog 69 #[.slice so l.length ca, .slice so2 l2.length ca2] w fun e w' => e = .returned (bV (decide (l = l2))) ∧ Below w.heap.size w w' := by
 have M : Mg w w ([]) := Mg.start w
 refine qs (l := [(0, .slice so l.length ca), (1, .slice so2 l2.length ca2)]) Tryz.func69 rfl Tryz.ntmps69 rfl rfl ?_
 intro Q hret hnorm hP a A
 refine wsk fun K1 hK1 => wrl (sda A λa A↦?_)
 refine qa (hK1 _ _ (wsk fun K2 hK2 => wsk fun K3 hK3 => wrl (sdm A λa A↦?_)))
 refine sdo A (qn Tryz.underlying31 rfl) λa A↦?_
 refine sdm A λa A↦?_
 refine sdo A (qn Tryz.underlying31 rfl) λa A↦?_
 rcases tf ((((l.length : Nat) : Int) != ((l2.length : Nat) : Int))) with hb4 | hb4
 ·
  have hb4' := bne_iff_ne.1 hb4
  refine sdc A zg hb4 λa A↦?_
  refine qa (hK3 _ _ (wp_cond_true (A.ev rfl) ?_))
  refine wsk fun K5 hK5 => wrl (sda A λa A↦?_)
  refine qa (hK5 _ _ (wp_ret (hret _ _ (en1 A rfl (qf rfl) ?_))))
  refine ⟨?_, M.bel⟩
  rw [decide_eq_false (fun e9 => by rw [e9] at hb4'; exact hb4' rfl)]
 ·
  have hb4' := bne_eq_false_iff_eq.1 hb4
  refine sdc A zg hb4 λa A↦?_
  refine qa (hK3 _ _ (wp_cond_false (A.ev rfl) ?_))
  refine wp_skip (hK2 _ _ (wsk fun K6 hK6 => wsk fun K7 hK7 => wrl (sdm A λa A↦?_)))
  refine sdo A (qn Tryz.underlying31 rfl) λa A↦?_
  refine sdm A λa A↦?_
  refine qa (hK7 _ _ (wp_block (zt (fun m_ a w1 => ∃ (i : Nat), m_ = 1 + (l.length - i) ∧ (i ≤ l.length ∧ ∀ j : Nat, j < i → l[j]? = l2[j]?) ∧ Sl a 26 [(0, .slice so l.length ca), (1, .slice so2 l2.length ca2), (6, .slice so l.length ca), (7, iV (((l.length : Nat) : Int))), (8, .slice so2 l2.length ca2), (9, iV (((l2.length : Nat) : Int))), (10, bV false), (11, .slice so l.length ca), (12, iV (((l.length : Nat) : Int))), (13, iV (((i : Nat) : Int)))] ∧ Mg w w1 ([])) _ ⟨0, rfl, ⟨Nat.zero_le _, fun j h => absurd h (Nat.not_lt_zero _)⟩, A.keep _ (by repeat' constructor), M⟩ ?_)))
  clear M A
  rintro m_ a w8 ⟨i, rfl, hinv10, A, M⟩ K9 hK9
  obtain ⟨hi0, hin9⟩ := hinv10
  refine wsk fun K11 hK11 => wrl ?_
  rcases tf (decide (((i : Nat) : Int) < ((l.length : Nat) : Int))) with hb12 | hb12
  ·
   have hb12' := of_decide_eq_true hb12
   refine sdc A qw hb12 λa A↦?_
   refine qa (hK11 _ _ (wsk fun K13 hK13 => wp_cond_true (A.ev rfl) ?_))
   refine wp_skip (hK13 _ _ (wsk fun K14 hK14 => wp_block (wsk fun K15 hK15 => wrl (sdm A λa A↦?_))))
   refine sda A λa A↦?_
   refine qa (hK15 _ _ (wsk fun K16 hK16 => zp (S := fun w1 => Mg w w1 ([])) (by kernel_rfl) ?_))
   replace M := M.drew
   refine qe A 0 rfl rfl rfl rfl hP (M.sub ns) (λ_ M↦ql rfl) λa A↦?_
   refine qe A 1 rfl rfl rfl rfl hP (M.sub ns) (λ_ M↦ql rfl) λa A↦?_
   obtain ⟨bx17, ox18, sx19, hs20, hc21, hi22⟩ := hR.at_ (i := i) (by omega)
   refine qe (v := pA bx17 (ox18 + i)) A 2 rfl rfl rfl rfl hP (M.sub ns) (λ_ M↦zk (k := i) Tryz.underlying31 (by kernel_rfl) rfl rfl (by first | rfl | omega) hs20 (by omega)) λa A↦?_
   refine qe A 3 rfl rfl rfl rfl hP (M.sub ns) (λ_ M↦E.m_loadX M hc21 o94 rfl) λa A↦?_
   refine qe A 4 rfl rfl rfl rfl hP (M.sub ns) (λ_ M↦ql rfl) λa A↦?_
   refine qe A 5 rfl rfl rfl rfl hP (M.sub ns) (λ_ M↦ql rfl) λa A↦?_
   obtain ⟨bx23, ox24, sx25, hs26, hc27, hi28⟩ := hR2.at_ (i := i) (by omega)
   refine qe (v := pA bx23 (ox24 + i)) A 6 rfl rfl rfl rfl hP (M.sub ns) (λ_ M↦zk (k := i) Tryz.underlying31 (by kernel_rfl) rfl rfl (by first | rfl | omega) hs26 (by omega)) λa A↦?_
   refine qe A 7 rfl rfl rfl rfl hP (M.sub ns) (λ_ M↦E.m_loadX M hc27 o94 rfl) λa A↦?_
   rcases tf (!(sx19 == sx25)) with hb29 | hb29
   ·
    refine qe (v := bV true) A 8 rfl rfl rfl rfl hP (M.sub ns) (λ_ M↦qg rfl rfl (fun w => ((vi Tryz.underlying4) w).trans (by rw [hb29]))) λa A↦?_
    refine ze (by kernel_rfl) ?_
    refine hK16 _ _ (wp_cond_true (A.ev rfl) ?_)
    refine wsk fun K30 hK30 => wrl (sda A λa A↦?_)
    refine qa (hK30 _ _ (wp_ret (hret _ _ (en1 A rfl (qf rfl) ?_))))
    refine ⟨?_, M.bel⟩
    rw [decide_eq_false (fun e9 => by rw [e9, hi28] at hi22; have e8 := Option.some.inj hi22; rw [e8] at hb29; simp at hb29)]
   ·
    refine qe (v := bV false) A 8 rfl rfl rfl rfl hP (M.sub ns) (λ_ M↦qg rfl rfl (fun w => ((vi Tryz.underlying4) w).trans (by rw [hb29]))) λa A↦?_
    refine ze (by kernel_rfl) ?_
    refine hK16 _ _ (wp_cond_false (A.ev rfl) ?_)
    refine wp_skip (hK14 _ _ (wrl (sdo (v := iV (((i + 1 : Nat) : Int))) A (qg rfl rfl (fun w => (ja (ji (by omega) (by omega)) w).trans (by rw [show (((i : Nat) : Int) + 1 : Int) = ((i + 1 : Nat) : Int) from by omega]))) λa A↦?_)))
    refine sdm A λa A↦?_
    refine qa ?_
    refine hK9 _ _ _ (by omega) ⟨i + 1, rfl, ⟨by omega, fun j hj => if h9 : j < i then hin9 j h9 else by have h8 : j = i := (by omega); subst h8; rw [hi22, hi28, show sx19 = sx25 from by simpa using hb29]⟩, A.keep _ (by repeat' constructor), M⟩
  ·
   have hb12' := of_decide_eq_false hb12
   refine sdc A qw hb12 λa A↦?_
   refine qa (hK11 _ _ (wsk fun K31 hK31 => wp_cond_false (A.ev rfl) ?_))
   refine wp_exit (hK6 _ _ (wsk fun K32 hK32 => wrl (sda A λa A↦?_)))
   refine qa (hK32 _ _ (wp_ret (hret _ _ (en1 A rfl (qf rfl) ?_))))
   refine ⟨?_, M.bel⟩
   rw [decide_eq_true (List.ext_getElem? fun j => if h9 : j < i then hin9 j h9 else by rw [List.getElem?_eq_none (by omega), List.getElem?_eq_none (by omega)])]
theorem same_any {w : World} {ya yb : Ty} (hA1 : TyR w ya) (hB1 : TyR w yb) (ha1 : ya.fs.length ≤ 2000000) (hb1 : yb.fs.length ≤ 2000000) (ha2 : ya.ms.length ≤ 2000000) (hb2 : yb.ms.length ≤ 2000000) : Calls Tryz.prog 51 #[.agg ya.c.toArray, .agg yb.c.toArray] w fun e w' => e = .returned (bV (xm ya.k yb.k)) ∧ Below w.heap.size w w' := by
 have M : Mg w w ([]) := Mg.start w
 refine qs (l := [(0, .agg ya.c.toArray), (1, .agg yb.c.toArray)]) Tryz.func51 rfl Tryz.ntmps51 rfl rfl ?_
 intro Q hret hnorm hP a A
 refine wsk fun K1 hK1 => wrl (zy (vs := ya.c) (t := 33) A M rfl rfl rfl pg (zf rfl rfl) (by decide) ?_)
 intro g2 w3 M a A
 refine zy (vs := yb.c) (t := 33) A M rfl rfl rfl pg (zf rfl rfl) (by decide) ?_
 intro g4 w5 M a A
 refine sda A λa A↦?_
 refine qa (hK1 _ _ (wsk fun K6 hK6 => wrl (sdo (v := pA g2 0) A (qb qnc rfl rfl) λa A↦?_)))
 refine sdo A (qh M o99 rfl 1 rfl rfl) λa A↦?_
 refine sdo (v := pA g4 0) A (qb qnc rfl rfl) λa A↦?_
 refine sdo A (qh M o99 rfl 0 rfl rfl) λa A↦?_
 rcases tf (decide (ya.nm = yb.nm)) with hb7 | hb7
 ·
  have hb7' := of_decide_eq_true hb7
  refine sdo (v := bV true) A (qg rfl rfl (fun w => (xk Tryz.underlying9 w).trans (by rw [hb7] <;> rfl))) λa A↦?_
  refine sdm A λa A↦?_
  refine sdo (v := pA g2 1) A (qb ju rfl rfl) λa A↦?_
  refine sdo A (qh M o93 rfl 1 rfl rfl) λa A↦?_
  refine sdo (v := pA g4 1) A (qb ju rfl rfl) λa A↦?_
  refine sdo A (qh M o93 rfl 0 rfl rfl) λa A↦?_
  rcases tf ((ya.par == yb.par)) with hb8 | hb8
  ·
   have hb8' := eq_of_beq hb8
   refine sdc A qr hb8 λa A↦?_
   refine sdk (v := bV true) A λa A↦?_
   refine sdm A λa A↦?_
   refine sdo (v := pA g2 2) A (qb xu rfl rfl) λa A↦?_
   refine sdo A (qh M qai rfl 1 rfl rfl) λa A↦?_
   refine sdo (v := pA g4 2) A (qb xu rfl rfl) λa A↦?_
   refine sdo A (qh M qai rfl 0 rfl rfl) λa A↦?_
   rcases tf (decide (ya.fs = yb.fs)) with hb9 | hb9
   ·
    have hb9' := of_decide_eq_true hb9
    refine gcl A M (ef rfl rfl) ((hb9 ▸ E.equalS_any (hA1.f.below M.bel) (hB1.f.below M.bel) (by omega) (by omega))) fun w11 hb10 M a A => ?_
    refine sdk (v := bV true) A λa A↦?_
    refine sdm A λa A↦?_
    refine sdo (v := pA g2 3) A (qb kk rfl rfl) λa A↦?_
    refine sdo A (qh M qic rfl 1 rfl rfl) λa A↦?_
    refine sdo (v := pA g4 3) A (qb kk rfl rfl) λa A↦?_
    refine sdo A (qh M qic rfl 0 rfl rfl) λa A↦?_
    rcases tf (decide (ya.ms = yb.ms)) with hb12 | hb12
    ·
     have hb12' := of_decide_eq_true hb12
     refine gcl A M (ef rfl rfl) ((hb12 ▸ qnj (hA1.m.below M.bel) (hB1.m.below M.bel) (by omega) (by omega))) fun w14 hb13 M a A => ?_
     refine sdk (v := bV true) A λa A↦?_
     refine sdm A λa A↦?_
     refine sdo (v := pA g2 4) A (qb qbf rfl rfl) λa A↦?_
     refine sdo A (qh M o94 rfl 1 rfl rfl) λa A↦?_
     refine sdo (v := pA g4 4) A (qb qbf rfl rfl) λa A↦?_
     refine sdo A (qh M o94 rfl 0 rfl rfl) λa A↦?_
     rcases tf ((ya.sl == yb.sl)) with hb15 | hb15
     ·
      have hb15' := eq_of_beq hb15
      refine sdo (v := bV true) A (qg rfl rfl (fun w => ((yn Tryz.underlying4) w).trans (by rw [hb15]))) λa A↦?_
      refine sdk (v := bV true) A λa A↦?_
      refine sdm A λa A↦?_
      refine sdo (v := pA g2 5) A (qb qeb rfl rfl) λa A↦?_
      refine sdo A (qh M o94 rfl 1 rfl rfl) λa A↦?_
      refine sdo (v := pA g4 5) A (qb qeb rfl rfl) λa A↦?_
      refine sdo A (qh M o94 rfl 0 rfl rfl) λa A↦?_
      rcases tf ((ya.op == yb.op)) with hb16 | hb16
      ·
       have hb16' := eq_of_beq hb16
       refine sdo (v := bV true) A (qg rfl rfl (fun w => ((yn Tryz.underlying4) w).trans (by rw [hb16]))) λa A↦?_
       refine sdk (v := bV true) A λa A↦?_
       refine sdm A λa A↦?_
       refine sdo (v := pA g2 6) A (qb yu rfl rfl) λa A↦?_
       refine sdo A (qh M o99 rfl 1 rfl rfl) λa A↦?_
       refine sdo (v := pA g4 6) A (qb yu rfl rfl) λa A↦?_
       refine sdo A (qh M o99 rfl 0 rfl rfl) λa A↦?_
       rcases tf (decide (ya.ui = yb.ui)) with hb17 | hb17
       ·
        have hb17' := of_decide_eq_true hb17
        refine sdo (v := bV true) A (qg rfl rfl (fun w => (xk Tryz.underlying9 w).trans (by rw [hb17] <;> rfl))) λa A↦?_
        refine sdk (v := bV true) A λa A↦?_
        refine sda A λa A↦?_
        refine qa (hK6 _ _ (wp_ret (hret _ _ (en1 A rfl (qf rfl) ?_))))
        refine ⟨?_, M.bel⟩
        rw [show xm ya.k yb.k = true from by rw [vz, hb7, hb8, hb9, hb12, hb15, hb16, hb17]; rfl]
       ·
        have hb17' := of_decide_eq_false hb17
        refine sdo (v := bV false) A (qg rfl rfl (fun w => (xk Tryz.underlying9 w).trans (by rw [hb17] <;> rfl))) λa A↦?_
        refine sdk (v := bV false) A λa A↦?_
        refine sda A λa A↦?_
        refine qa (hK6 _ _ (wp_ret (hret _ _ (en1 A rfl (qf rfl) ?_))))
        refine ⟨?_, M.bel⟩
        rw [show xm ya.k yb.k = false from by rw [vz, hb7, hb8, hb9, hb12, hb15, hb16, hb17]; rfl]
      ·
       have hb16' := ne_of_beq_false hb16
       refine sdo (v := bV false) A (qg rfl rfl (fun w => ((yn Tryz.underlying4) w).trans (by rw [hb16]))) λa A↦?_
       refine sdk (v := bV false) A λa A↦?_
       refine sdm A λa A↦?_
       iterate 5 refine qj A rfl rfl rfl λa A↦?_
       refine sdk (v := bV false) A λa A↦?_
       refine sda A λa A↦?_
       refine qa (hK6 _ _ (wp_ret (hret _ _ (en1 A rfl (qf rfl) ?_))))
       refine ⟨?_, M.bel⟩
       rw [show xm ya.k yb.k = false from by rw [vz, hb7, hb8, hb9, hb12, hb15, hb16]; rfl]
     ·
      have hb15' := ne_of_beq_false hb15
      refine sdo (v := bV false) A (qg rfl rfl (fun w => ((yn Tryz.underlying4) w).trans (by rw [hb15]))) λa A↦?_
      refine sdk (v := bV false) A λa A↦?_
      refine sdm A λa A↦?_
      iterate 5 refine qj A rfl rfl rfl λa A↦?_
      refine sdk (v := bV false) A λa A↦?_
      refine sdm A λa A↦?_
      iterate 5 refine qj A rfl rfl rfl λa A↦?_
      refine sdk (v := bV false) A λa A↦?_
      refine sda A λa A↦?_
      refine qa (hK6 _ _ (wp_ret (hret _ _ (en1 A rfl (qf rfl) ?_))))
      refine ⟨?_, M.bel⟩
      rw [show xm ya.k yb.k = false from by rw [vz, hb7, hb8, hb9, hb12, hb15]; rfl]
    ·
     have hb12' := of_decide_eq_false hb12
     refine gcl A M (ef rfl rfl) ((hb12 ▸ qnj (hA1.m.below M.bel) (hB1.m.below M.bel) (by omega) (by omega))) fun w19 hb18 M a A => ?_
     refine sdk (v := bV false) A λa A↦?_
     refine sdm A λa A↦?_
     iterate 5 refine qj A rfl rfl rfl λa A↦?_
     refine sdk (v := bV false) A λa A↦?_
     refine sdm A λa A↦?_
     iterate 5 refine qj A rfl rfl rfl λa A↦?_
     refine sdk (v := bV false) A λa A↦?_
     refine sdm A λa A↦?_
     iterate 5 refine qj A rfl rfl rfl λa A↦?_
     refine sdk (v := bV false) A λa A↦?_
     refine sda A λa A↦?_
     refine qa (hK6 _ _ (wp_ret (hret _ _ (en1 A rfl (qf rfl) ?_))))
     refine ⟨?_, M.bel⟩
     rw [show xm ya.k yb.k = false from by rw [vz, hb7, hb8, hb9, hb12]; rfl]
   ·
    have hb9' := of_decide_eq_false hb9
    refine gcl A M (ef rfl rfl) ((hb9 ▸ E.equalS_any (hA1.f.below M.bel) (hB1.f.below M.bel) (by omega) (by omega))) fun w21 hb20 M a A => ?_
    refine sdk (v := bV false) A λa A↦?_
    refine sdm A λa A↦?_
    iterate 5 refine qj A rfl rfl rfl λa A↦?_
    refine sdk (v := bV false) A λa A↦?_
    refine sdm A λa A↦?_
    iterate 5 refine qj A rfl rfl rfl λa A↦?_
    refine sdk (v := bV false) A λa A↦?_
    refine sdm A λa A↦?_
    iterate 5 refine qj A rfl rfl rfl λa A↦?_
    refine sdk (v := bV false) A λa A↦?_
    refine sdm A λa A↦?_
    iterate 5 refine qj A rfl rfl rfl λa A↦?_
    refine sdk (v := bV false) A λa A↦?_
    refine sda A λa A↦?_
    refine qa (hK6 _ _ (wp_ret (hret _ _ (en1 A rfl (qf rfl) ?_))))
    refine ⟨?_, M.bel⟩
    rw [show xm ya.k yb.k = false from by rw [vz, hb7, hb8, hb9]; rfl]
  ·
   have hb8' := ne_of_beq_false hb8
   refine sdc A qr hb8 λa A↦?_
   refine sdk (v := bV false) A λa A↦?_
   refine sdm A λa A↦?_
   iterate 5 refine qj A rfl rfl rfl λa A↦?_
   refine sdk (v := bV false) A λa A↦?_
   refine sdm A λa A↦?_
   iterate 5 refine qj A rfl rfl rfl λa A↦?_
   refine sdk (v := bV false) A λa A↦?_
   refine sdm A λa A↦?_
   iterate 5 refine qj A rfl rfl rfl λa A↦?_
   refine sdk (v := bV false) A λa A↦?_
   refine sdm A λa A↦?_
   iterate 5 refine qj A rfl rfl rfl λa A↦?_
   refine sdk (v := bV false) A λa A↦?_
   refine sdm A λa A↦?_
   iterate 5 refine qj A rfl rfl rfl λa A↦?_
   refine sdk (v := bV false) A λa A↦?_
   refine sda A λa A↦?_
   refine qa (hK6 _ _ (wp_ret (hret _ _ (en1 A rfl (qf rfl) ?_))))
   refine ⟨?_, M.bel⟩
   rw [show xm ya.k yb.k = false from by rw [vz, hb7, hb8]; rfl]
 ·
  have hb7' := of_decide_eq_false hb7
  refine sdo (v := bV false) A (qg rfl rfl (fun w => (xk Tryz.underlying9 w).trans (by rw [hb7] <;> rfl))) λa A↦?_
  refine sdm A λa A↦?_
  iterate 5 refine qj A rfl rfl rfl λa A↦?_
  refine sdk (v := bV false) A λa A↦?_
  refine sdm A λa A↦?_
  iterate 5 refine qj A rfl rfl rfl λa A↦?_
  refine sdk (v := bV false) A λa A↦?_
  refine sdm A λa A↦?_
  iterate 5 refine qj A rfl rfl rfl λa A↦?_
  refine sdk (v := bV false) A λa A↦?_
  refine sdm A λa A↦?_
  iterate 5 refine qj A rfl rfl rfl λa A↦?_
  refine sdk (v := bV false) A λa A↦?_
  refine sdm A λa A↦?_
  iterate 5 refine qj A rfl rfl rfl λa A↦?_
  refine sdk (v := bV false) A λa A↦?_
  refine sdm A λa A↦?_
  iterate 5 refine qj A rfl rfl rfl λa A↦?_
  refine sdk (v := bV false) A λa A↦?_
  refine sda A λa A↦?_
  refine qa (hK6 _ _ (wp_ret (hret _ _ (en1 A rfl (qf rfl) ?_))))
  refine ⟨?_, M.bel⟩
  rw [show xm ya.k yb.k = false from by rw [vz, hb7]; rfl]
theorem zhd {w : World} {ya yb : Ty} (hA1 : TyR w ya) (hB1 : TyR w yb) (ha1 : ya.fs.length ≤ 2000000) (hb1 : yb.fs.length ≤ 2000000) (ha2 : ya.ms.length ≤ 2000000) (hb2 : yb.ms.length ≤ 2000000) {v : Bool} (h : xm ya.k yb.k = v) : Calls Tryz.prog 51 #[.agg ya.c.toArray, .agg yb.c.toArray] w fun e w' => e = .returned (bV v) ∧ Below w.heap.size w w' := h ▸ same_any hA1 hB1 ha1 hb1 ha2 hb2
theorem zdj {w : World} {tz : Option Addr} {tc : Nat} {ts : List Ty} (hT : TR w tz ts) (hl : ts.length ≤ 2000000) {f : FuncId} {cs : List Value} {p : Ty → Bool} (hF : AskG (fun t => .agg t.c.toArray) Tryz.prog f cs w ts p) : Calls Tryz.prog 49 #[.slice tz ts.length tc, .func (.func f) #[] cs.toArray] w fun e w' => e = .returned (iV (ixG p ts)) ∧ Below w.heap.size w w' := by
 have M : Mg w w ([]) := Mg.start w
 refine qs (l := [(0, .slice tz ts.length tc), (1, .func (.func f) #[] cs.toArray)]) Tryz.func49 rfl Tryz.ntmps49 rfl rfl ?_
 intro Q hret hnorm hP a A
 refine wsk fun K1 hK1 => wrl (sda A λa A↦?_)
 refine qa (hK1 _ _ (wsk fun K2 hK2 => wsk fun K3 hK3 => wrl (sdm A λa A↦?_)))
 refine sdo A (qn Tryz.underlying26 rfl) λa A↦?_
 refine sdm A λa A↦?_
 refine qa (hK3 _ _ (wp_block (zt (fun m_ a w1 => ∃ (i : Nat), m_ = 1 + (ts.length - i) ∧ (i ≤ ts.length ∧ ∀ (j : Nat) u, j < i → ts[j]? = some u → p u = false) ∧ Sl a 19 [(0, .slice tz ts.length tc), (1, .func (.func f) #[] cs.toArray), (6, .slice tz ts.length tc), (7, iV (((ts.length : Nat) : Int))), (8, iV (((i : Nat) : Int)))] ∧ Mg w w1 ([])) _ ⟨0, rfl, ⟨Nat.zero_le _, fun j u h => absurd h (Nat.not_lt_zero _)⟩, A.keep _ ⟨rfl, rfl, rfl, rfl, rfl, trivial⟩, M⟩ ?_)))
 clear M A
 rintro m_ a w4 ⟨i, rfl, hinv6, A, M⟩ K5 hK5
 obtain ⟨hi0, hin9⟩ := hinv6
 refine wsk fun K7 hK7 => wrl ?_
 rcases tf (decide (((i : Nat) : Int) < ((ts.length : Nat) : Int))) with hb8 | hb8
 ·
  have hb8' := of_decide_eq_true hb8
  refine sdc A qw hb8 λa A↦?_
  refine qa (hK7 _ _ (wsk fun K9 hK9 => wp_cond_true (A.ev rfl) ?_))
  refine wp_skip (hK9 _ _ (wsk fun K10 hK10 => wp_block (wsk fun K11 hK11 => wrl (sdm A λa A↦?_))))
  refine sda A λa A↦?_
  refine qa (hK11 _ _ (wsk fun K12 hK12 => wrl ?_))
  iterate 3 refine sdm A λa A↦?_
  obtain ⟨ty13, bt14, ot15, it16, mt17, rt18, lt19, Ht20⟩ := hT.at_ (i := i) (by omega)
  refine sdo (v := pA bt14 (ot15 + i * 7)) A (qx (k := i) Tryz.underlying26 (by kernel_rfl) rfl rfl (by first | rfl | omega) lt19 (by omega)) λa A↦?_
  refine sdo (v := .agg ty13.c.toArray) A (xa M Ht20 qaj rfl rfl) λa A↦?_
  rcases tf (p ty13) with hb21 | hb21
  ·
   refine xw A rfl rfl rfl (kh rfl rfl hF.inv) ((hb21 ▸ hF.run ty13 _ mt17 M.bel)) ?_
   rintro _ w23 ⟨rfl, hb22⟩
   replace M := M.call hb22
   refine ⟨_, rfl, ?_⟩
   intro a A
   refine qa (hK12 _ _ (wp_cond_true (A.ev rfl) ?_))
   refine wsk fun K24 hK24 => wrl (sdm A λa A↦?_)
   refine sda A λa A↦?_
   refine qa (hK24 _ _ (wp_ret (hret _ _ (en1 A rfl (qf rfl) ?_))))
   exact ⟨by rw [qkc (p := p) hin9 it16 hb21], M.bel⟩
  ·
   refine xw A rfl rfl rfl (kh rfl rfl hF.inv) ((hb21 ▸ hF.run ty13 _ mt17 M.bel)) ?_
   rintro _ w26 ⟨rfl, hb25⟩
   replace M := M.call hb25
   refine ⟨_, rfl, ?_⟩
   intro a A
   refine qa (hK12 _ _ (wp_cond_false (A.ev rfl) ?_))
   refine wp_skip (hK10 _ _ (wrl (sdo (v := iV (((i + 1 : Nat) : Int))) A (qg rfl rfl (fun w => (ja (ji (by omega) (by omega)) w).trans (by rw [show (((i : Nat) : Int) + 1 : Int) = ((i + 1 : Nat) : Int) from by omega]))) λa A↦?_)))
   refine sdm A λa A↦?_
   refine qa ?_
   refine hK5 _ _ _ (by omega) ⟨i + 1, rfl, ⟨by omega, fun j u hj hu => if h9 : j < i then hin9 j u h9 hu else by have h8 : j = i := (by omega); subst h8; rw [it16] at hu; rw [← Option.some.inj hu]; exact hb21⟩, A.keep _ ⟨rfl, rfl, rfl, rfl, rfl, trivial⟩, M⟩
 ·
  have hb8' := of_decide_eq_false hb8
  refine sdc A qw hb8 λa A↦?_
  refine qa (hK7 _ _ (wsk fun K27 hK27 => wp_cond_false (A.ev rfl) ?_))
  refine wp_exit (hK2 _ _ (wsk fun K28 hK28 => wrl (sda A λa A↦?_)))
  refine qa (hK28 _ _ (wp_ret (hret _ _ (en1 A rfl (qf rfl) ?_))))
  exact ⟨by rw [qga (p := p) (fun j u hj => hin9 j u (by omega))], M.bel⟩
theorem qve {w : World} {u : Ty} {gb : Nat} {s : ByteArray} (hg : w.cell? ⟨gb, 0, none⟩ = some (.string s)) : Calls Tryz.prog 50 #[.agg u.c.toArray, pA gb 0] w fun e w' => e = .returned (bV (decide (u.ui = s))) ∧ Below w.heap.size w w' := by
 have M : Mg w w ([]) := Mg.start w
 refine qs (l := [(0, .agg u.c.toArray), (1, pA gb 0)]) Tryz.func50 rfl Tryz.ntmps50 rfl rfl ?_
 intro Q hret hnorm hP a A
 refine wsk fun K1 hK1 => wrl (zy (vs := u.c) (t := 33) A M rfl rfl rfl pg (zf rfl rfl) (by decide) ?_)
 intro g2 w3 M a A
 refine sda A λa A↦?_
 refine qa (hK1 _ _ (wsk fun K4 hK4 => wrl (sdo (v := pA g2 6) A (qb yu rfl rfl) λa A↦?_)))
 refine sdo A (qh M o99 rfl 0 rfl rfl) λa A↦?_
 refine sdo A (E.m_loadX M hg o99 rfl) λa A↦?_
 rcases tf (decide (u.ui = s)) with hb5 | hb5
 ·
  have hb5' := of_decide_eq_true hb5
  refine sdo (v := bV true) A (qg rfl rfl (fun w => (xk Tryz.underlying9 w).trans (by rw [hb5] <;> rfl))) λa A↦?_
  refine sda A λa A↦?_
  refine qa (hK4 _ _ (wp_ret (hret _ _ (en1 A rfl (qf rfl) ?_))))
  exact ⟨by rw [hb5], M.bel⟩
 ·
  have hb5' := of_decide_eq_false hb5
  refine sdo (v := bV false) A (qg rfl rfl (fun w => (xk Tryz.underlying9 w).trans (by rw [hb5] <;> rfl))) λa A↦?_
  refine sda A λa A↦?_
  refine qa (hK4 _ _ (wp_ret (hret _ _ (en1 A rfl (qf rfl) ?_))))
  exact ⟨by rw [hb5], M.bel⟩
theorem qja {w : World} {b tc rc : Nat} {tz ro : Option Addr} {ts : List Ty} {rs : List Rk} (V : SR w b tz tc ts ro rc rs) (hW : WS (ts.map Ty.k) (rs.map Rk.k)) {s : ByteArray} : Calls Tryz.prog 26 #[pA b 0, .string s] w fun e w' => e = .returned (iV (uix (ts.map Ty.k) s)) ∧ Below w.heap.size w w' := by
 have hkl := hW.kl
 have hrl := hW.rl
 rw [List.length_map] at hkl hrl
 have M : Mg w w ([]) := Mg.start w
 refine qs (l := [(0, pA b 0), (1, .string s)]) Tryz.func26 rfl Tryz.ntmps26 rfl rfl ?_
 intro Q hret hnorm hP a A
 refine wsk fun K1 hK1 => wrl (zy (vs := [.string s]) (t := 9) A M rfl rfl rfl pg (zf rfl rfl) (by decide) ?_)
 intro g2 w3 M a A
 refine sda A λa A↦?_
 refine qa (hK1 _ _ (wsk fun K4 hK4 => wsk fun K5 hK5 => wrl (sdo A (qh M o99 rfl 0 rfl rfl) λa A↦?_)))
 rcases tf (decide (s = ⟨#[]⟩)) with hb6 | hb6
 ·
  have hb6' := of_decide_eq_true hb6
  refine sdo (v := bV true) A (qg rfl rfl (fun w => (xk Tryz.underlying9 w).trans (by rw [hb6] <;> rfl))) λa A↦?_
  refine qa (hK5 _ _ (wp_cond_true (A.ev rfl) ?_))
  refine wsk fun K7 hK7 => wrl (sda A λa A↦?_)
  refine qa (hK7 _ _ (wp_ret (hret _ _ (en1 A rfl (qf rfl) ?_))))
  exact ⟨by unfold uix; rw [if_pos hb6], M.bel⟩
 ·
  have hb6' := of_decide_eq_false hb6
  refine sdo (v := bV false) A (qg rfl rfl (fun w => (xk Tryz.underlying9 w).trans (by rw [hb6] <;> rfl))) λa A↦?_
  refine qa (hK5 _ _ (wp_cond_false (A.ev rfl) ?_))
  refine wp_skip (hK4 _ _ (wsk fun K8 hK8 => wrl (sdm A λa A↦?_)))
  refine sdo A (zh rfl) λa A↦?_
  refine sdo (v := pA b 0) A (qb jw rfl rfl) λa A↦?_
  refine sdo A (E.m_loadX M V.c0 xn rfl) λa A↦?_
  refine sdo (v := .func (.func 50) #[] [pA g2 0].toArray) A (uf rfl) λa A↦?_
  refine gcl A M (ef rfl rfl) (zdj (p := fun t => decide (t.ui = s)) (V.T.below M.bel) (by omega) ⟨fun us w => by kernel_rfl, fun t w1 ht hb => qve ((hb.cell (cell_lt (M.cell 0 rfl 0 rfl))).trans (M.cell 0 rfl 0 rfl))⟩) fun w10 hb9 M a A => ?_
  refine sda A λa A↦?_
  refine qa (hK8 _ _ (wp_ret (hret _ _ (en1 A rfl (qf rfl) ?_))))
  exact ⟨by unfold uix; rw [if_neg (by rw [hb6]; decide), quf]; rfl, M.bel⟩
theorem zki {w : World} {b tc rc : Nat} {tz ro : Option Addr} {ts : List Ty} {rs : List Rk} (V : SR w b tz tc ts ro rc rs) (hW : WS (ts.map Ty.k) (rs.map Rk.k)) {u : Ty} (hU : TyR w u) (hul : u.fs.length ≤ 2000000) (hum : u.ms.length ≤ 2000000) {x : Int} (h0 : 0 ≤ x) (h1 : x < ((ts.length : Nat) : Int)) {y : Ty} (hy : ts[x.toNat]? = some y) : Calls Tryz.prog 27 #[pA b 0, iV x, .agg u.c.toArray] w fun e w' => e = .returned (.tuple #[iV (if xm y.k u.k = true then x else 0), iV (if xm y.k u.k = true then 0 else 8)]) ∧ Below w.heap.size w w' := by
 have M : Mg w w ([]) := Mg.start w
 refine qs (l := [(0, pA b 0), (1, iV x), (2, .agg u.c.toArray)]) Tryz.func27 rfl Tryz.ntmps27 rfl rfl ?_
 intro Q hret hnorm hP a A
 refine wsk fun K1 hK1 => wrl (zy (vs := u.c) (t := 33) A M rfl rfl rfl pg (zf rfl rfl) (by decide) ?_)
 intro g2 w3 M a A
 iterate 2 refine sda A λa A↦?_
 refine qa (hK1 _ _ (wsk fun K4 hK4 => wsk fun K5 hK5 => ?_))
 obtain ⟨ty6, bt7, ot8, it9, mt10, rt11, lt12, Ht13⟩ := V.T.at_ (i := x.toNat) (by omega)
 have hnf := hW.nf16 (zn it9)
 have hml := hW.ml _ (List.mem_of_getElem? (zn it9))
 rw [show ty6.k.fs.length = ty6.fs.length from rfl] at hnf
 rw [show ty6.k.fs.length = ty6.fs.length from rfl, show ty6.k.ms.length = ty6.ms.length from rfl] at hml
 obtain rfl : y = ty6 := Option.some.inj (hy.symm.trans it9)
 refine zp (S := fun w1 => Mg w w1 (.obj g2 (.cells u.c.toArray 33) :: [])) (by kernel_rfl) ?_
 replace M := M.drew
 refine qe A 0 rfl rfl rfl rfl hP (M.sub (cc ns)) (λ_ M↦ql rfl) λa A↦?_
 refine qe A 1 rfl rfl rfl rfl hP (M.sub (cc ns)) (λ_ M↦zh rfl) λa A↦?_
 refine qe (v := pA b 0) A 2 rfl rfl rfl rfl hP (M.sub (cc ns)) (λ_ M↦qb jw rfl rfl) λa A↦?_
 refine qe A 3 rfl rfl rfl rfl hP (M.sub (cc ns)) (λ_ M↦E.m_loadX M V.c0 xn rfl) λa A↦?_
 refine qe A 4 rfl rfl rfl rfl hP (M.sub (cc ns)) (λ_ M↦ql rfl) λa A↦?_
 refine qe (v := pA bt7 (ot8 + x.toNat * 7)) A 5 rfl rfl rfl rfl hP (M.sub (cc ns)) (λ_ M↦qx (k := x.toNat) Tryz.underlying26 (by kernel_rfl) rfl rfl (by first | rfl | omega) lt12 (by omega)) λa A↦?_
 refine qe (v := .agg y.c.toArray) A 6 rfl rfl rfl rfl hP (M.sub (cc ns)) (λ_ M↦xa M Ht13 qaj rfl rfl) λa A↦?_
 refine qe A 7 rfl rfl rfl rfl hP (M.sub (cc ns)) (λ_ M↦qz M qaj rfl 0 rfl (cs := u.c) rfl rfl) λa A↦?_
 rcases tf (xm y.k u.k) with hb14 | hb14
 ·
  refine zd (by kernel_rfl) (jf A 8 rfl rfl rfl rfl (zj rfl rfl (fun w => by kernel_rfl)) (zhd (ya := y) (yb := u) (rt11.below M.bel) (hU.below M.bel) (by omega) (by omega) (by omega) (by omega) hb14) ?_)
  rintro _ w16 ⟨rfl, hb15⟩
  replace M := M.call hb15
  refine ⟨_, rfl, (M.sub (cc ns)), ?_⟩
  intro a A
  refine qe (v := bV false) A 9 rfl rfl rfl rfl hP (M.sub (cc ns)) (λ_ M↦zi rfl zm) λa A↦?_
  refine ze (by kernel_rfl) ?_
  refine hK5 _ _ (wp_cond_false (A.ev rfl) ?_)
  refine wp_skip (hK4 _ _ (wsk fun K17 hK17 => wrl (sdm A λa A↦?_)))
  iterate 2 refine sda A λa A↦?_
  refine qa (hK17 _ _ (wp_ret (hret _ _ (en2 A rfl (qf rfl) (qf rfl) ?_))))
  refine ⟨?_, M.bel⟩
  rw [hb14]
  rfl
 ·
  refine zd (by kernel_rfl) (jf A 8 rfl rfl rfl rfl (zj rfl rfl (fun w => by kernel_rfl)) (zhd (ya := y) (yb := u) (rt11.below M.bel) (hU.below M.bel) (by omega) (by omega) (by omega) (by omega) hb14) ?_)
  rintro _ w19 ⟨rfl, hb18⟩
  replace M := M.call hb18
  refine ⟨_, rfl, (M.sub (cc ns)), ?_⟩
  intro a A
  refine qe (v := bV true) A 9 rfl rfl rfl rfl hP (M.sub (cc ns)) (λ_ M↦zi rfl zm) λa A↦?_
  refine ze (by kernel_rfl) ?_
  refine hK5 _ _ (wp_cond_true (A.ev rfl) ?_)
  refine wsk fun K20 hK20 => wrl ?_
  iterate 2 refine sda A λa A↦?_
  refine qa (hK20 _ _ (wp_ret (hret _ _ (en2 A rfl (qf rfl) (qf rfl) ?_))))
  refine ⟨?_, M.bel⟩
  rw [hb14]
  rfl
theorem zyg {w : World} {so : Option Addr} {ca : Nat} {l : List Bool} (hb : E.Rl w so l) (hl : l.length ≤ 1000000000) : Calls Tryz.prog 54 #[.slice so l.length ca] w fun e w' => ∃ so' ca', e = .returned (.slice so' l.length ca') ∧ Mg w w' [.row 4 1 (.slice so' l.length ca') l.length (E.boolC l)] := by
 have M : Mg w w ([]) := Mg.start w
 refine qs (l := [(0, .slice so l.length ca)]) Tryz.func54 rfl Tryz.ntmps54 rfl rfl ?_
 intro Q hret hnorm hP a A
 refine wsk fun K1 hK1 => wrl (sda A λa A↦?_)
 refine qa (hK1 _ _ (wsk fun K2 hK2 => wrl (sdm A λa A↦?_)))
 replace M := M.nilRow (qk qm) 4 1
 refine jo (e := 4) (sz := 1) (k := 0) (q := 0) (m := l.length) (xs := []) (news := E.boolC l) (L' := fun v3 => (.row 4 1 (v3) (0 + l.length) ([] ++ E.boolC l) :: [])) A rfl rfl rfl (xb (z := bV false) (sz := 1) (by_ := 1) Tryz.underlying31 (by kernel_rfl) rfl rfl rfl M 0 rfl rfl rfl (E.boolC_n l) (hb.below M.bel) (E.boolC_one l) (by omega)) (fun _ => rfl) ?_
 intro v3 w4 M a A
 refine sda A λa A↦?_
 refine qa (hK2 _ _ (wp_ret (hret _ _ (en1 A rfl (qf rfl) ?_))))
 rw [Nat.zero_add, List.nil_append] at M
 obtain ⟨so9, ca9, rfl⟩ := jg (M.has 0 rfl)
 exact ⟨_, _, rfl, M⟩
theorem ug {w : World} {u : Ty} (hU : TyR w u) (hul : u.fs.length ≤ 2000000) (hum : u.ms.length ≤ 2000000) (hz1 : u.nm.size ≤ 281474976710656) (hz2 : u.ui.size ≤ 281474976710656) (huz : ∀ s ∈ u.fs, s.size ≤ 281474976710656) : Calls Tryz.prog 29 #[.agg u.c.toArray] w fun e w' => ∃ t2 : Ty, e = .returned (.agg t2.c.toArray) ∧ t2.k = u.k ∧ Mg w w' [.row 9 1 (.slice t2.fo t2.fs.length t2.fc) t2.fs.length (E.strC t2.fs), .row 4 1 (.slice t2.mo t2.ms.length t2.mc) t2.ms.length (E.boolC t2.ms)] := by
 have M : Mg w w ([]) := Mg.start w
 refine qs (l := [(0, .agg u.c.toArray)]) Tryz.func29 rfl Tryz.ntmps29 rfl rfl ?_
 intro Q hret hnorm hP a A
 refine wsk fun K1 hK1 => wrl (zy (vs := u.c) (t := 33) A M rfl rfl rfl pg (zf rfl rfl) (by decide) ?_)
 intro g2 w3 M a A
 refine zy (vs := [.string (⟨#[]⟩), iV 0, .slice none 0 0, .slice none 0 0, bV false, bV false, .string (⟨#[]⟩)]) (t := 33) A M rfl rfl rfl pg (zv (z := .agg #[.string (⟨#[]⟩), iV 0, .slice none 0 0, .slice none 0 0, bV false, bV false, .string (⟨#[]⟩)]) (by kernel_rfl) rfl) (by decide) ?_
 intro g4 w5 M a A
 refine qa (hK1 _ _ (wsk fun K6 hK6 => zp (S := fun w1 => Mg w w1 (.obj g2 (.cells u.c.toArray 33) :: [])) (by kernel_rfl) ?_))
 replace M := M.drew
 refine qe (v := pA g2 0) A 0 rfl rfl rfl rfl hP (M.sub (cn (cc ns))) (λ_ M↦qb qnc rfl rfl) λa A↦?_
 refine qe A 1 rfl rfl rfl rfl hP (M.sub (cn (cc ns))) (λ_ M↦qh M o99 rfl 0 rfl rfl) λa A↦?_
 refine qe (v := pA g2 1) A 3 rfl rfl rfl rfl hP (M.sub (cn (cc ns))) (λ_ M↦qb ju rfl rfl) λa A↦?_
 refine qe A 4 rfl rfl rfl rfl hP (M.sub (cn (cc ns))) (λ_ M↦qh M o93 rfl 0 rfl rfl) λa A↦?_
 refine qe (v := pA g2 2) A 5 rfl rfl rfl rfl hP (M.sub (cn (cc ns))) (λ_ M↦qb xu rfl rfl) λa A↦?_
 refine qe A 6 rfl rfl rfl rfl hP (M.sub (cn (cc ns))) (λ_ M↦qh M qai rfl 0 rfl rfl) λa A↦?_
 refine qe (v := pA g2 3) A 8 rfl rfl rfl rfl hP (M.sub (cn (cc ns))) (λ_ M↦qb kk rfl rfl) λa A↦?_
 refine qe A 9 rfl rfl rfl rfl hP (M.sub (cn (cc ns))) (λ_ M↦qh M qic rfl 0 rfl rfl) λa A↦?_
 refine qe (v := pA g2 4) A 11 rfl rfl rfl rfl hP (M.sub (cn (cc ns))) (λ_ M↦qb qbf rfl rfl) λa A↦?_
 refine qe A 12 rfl rfl rfl rfl hP (M.sub (cn (cc ns))) (λ_ M↦qh M o94 rfl 0 rfl rfl) λa A↦?_
 refine qe (v := pA g2 5) A 13 rfl rfl rfl rfl hP (M.sub (cn (cc ns))) (λ_ M↦qb qeb rfl rfl) λa A↦?_
 refine qe A 14 rfl rfl rfl rfl hP (M.sub (cn (cc ns))) (λ_ M↦qh M o94 rfl 0 rfl rfl) λa A↦?_
 refine qe (v := pA g2 6) A 15 rfl rfl rfl rfl hP (M.sub (cn (cc ns))) (λ_ M↦qb yu rfl rfl) λa A↦?_
 refine qe A 16 rfl rfl rfl rfl hP (M.sub (cn (cc ns))) (λ_ M↦qh M o99 rfl 0 rfl rfl) λa A↦?_
 refine zd (by kernel_rfl) (jf A 2 rfl rfl rfl rfl (zj rfl rfl (fun w => by kernel_rfl)) (clone_any (by first | exact hz1 | exact hz2)) ?_)
 rintro _ w8 ⟨rfl, hb7⟩
 replace M := M.call hb7
 refine ⟨_, rfl, (M.sub (cn (cc ns))), ?_⟩
 intro a A
 refine zd (by kernel_rfl) (jf A 7 rfl rfl rfl rfl (zj rfl rfl (fun w => by kernel_rfl)) (E.texts_any (hU.f.below M.bel) (by omega) huz) ?_)
 rintro _ w12 ⟨so9, ca10, rfl, hM11⟩
 replace M : Mg w w12 (.row 9 1 (.slice so9 u.fs.length ca10) u.fs.length (E.strC u.fs) :: .obj g4 (.cells #[.string (⟨#[]⟩), iV 0, .slice none 0 0, .slice none 0 0, bV false, bV false, .string (⟨#[]⟩)] 33) :: .obj g2 (.cells u.c.toArray 33) :: []) := (M.both hM11 (qi (by simp) (qi (by simp) (qk qm))) (qi (by simp) (qk qm)))
 refine ⟨_, rfl, (M.sub (cn (cn (cc ns)))), ?_⟩
 intro a A
 refine zd (by kernel_rfl) (jf A 10 rfl rfl rfl rfl (zj rfl rfl (fun w => by kernel_rfl)) (zyg (hU.m.below M.bel) (by omega)) ?_)
 rintro _ w16 ⟨so13, ca14, rfl, hM15⟩
 replace M : Mg w w16 (.row 4 1 (.slice so13 u.ms.length ca14) u.ms.length (E.boolC u.ms) :: .row 9 1 (.slice so9 u.fs.length ca10) u.fs.length (E.strC u.fs) :: .obj g4 (.cells #[.string (⟨#[]⟩), iV 0, .slice none 0 0, .slice none 0 0, bV false, bV false, .string (⟨#[]⟩)] 33) :: .obj g2 (.cells u.c.toArray 33) :: []) := (M.both hM15 (qi (by simp) (qi (by simp) (qi (by simp) (qk qm)))) (qi (by simp) (qk qm)))
 refine ⟨_, rfl, (M.sub (cn (cn (cn (cc ns))))), ?_⟩
 intro a A
 refine zd (by kernel_rfl) (jf A 17 rfl rfl rfl rfl (zj rfl rfl (fun w => by kernel_rfl)) (clone_any (by first | exact hz1 | exact hz2)) ?_)
 rintro _ w18 ⟨rfl, hb17⟩
 replace M := M.call hb17
 refine ⟨_, rfl, (M.sub (cn (cn (cn (cc ns))))), ?_⟩
 intro a A
 refine qe (v := .agg #[.string u.nm, iV u.par, .slice so9 u.fs.length ca10, .slice so13 u.ms.length ca14, bV u.sl, bV u.op, .string u.ui]) A 18 rfl rfl rfl rfl hP (M.sub (cn (cn (cn (cc ns))))) (λ_ M↦jb rfl (fun w => by kernel_rfl)) λa A↦?_
 refine zd (by kernel_rfl) (jm (L' := (.row 4 1 (.slice so13 u.ms.length ca14) u.ms.length (E.boolC u.ms) :: .row 9 1 (.slice so9 u.fs.length ca10) u.fs.length (E.strC u.fs) :: .obj g4 (.cells #[.string u.nm, iV u.par, .slice so9 u.fs.length ca10, .slice so13 u.ms.length ca14, bV u.sl, bV u.op, .string u.ui] 33) :: .obj g2 (.cells u.c.toArray 33) :: [])) A M 19 rfl rfl rfl (za rfl rfl rfl (by kernel_rfl) M 2 rfl rfl rfl) 2 rfl rfl rfl ?_)
 intro w19 M
 refine ⟨(M.sub (cn (cn (cn (cc ns))))), ?_⟩
 refine ze (by kernel_rfl) ?_
 refine hK6 _ _ (wp_ret (hret _ _ (en1 A rfl (zu M qaj rfl 2 rfl (cs := [.string u.nm, iV u.par, .slice so9 u.fs.length ca10, .slice so13 u.ms.length ca14, bV u.sl, bV u.op, .string u.ui]) rfl rfl) ?_)))
 replace M : Mg w w19 (.row 9 1 (.slice so9 u.fs.length ca10) u.fs.length (E.strC u.fs) :: .row 4 1 (.slice so13 u.ms.length ca14) u.ms.length (E.boolC u.ms) :: []) := (M.bring 1 rfl rfl).sub (cc (cc (cn (cn (.refl _)))))
 exact ⟨⟨u.nm, u.par, so9, ca10, u.fs, so13, ca14, u.ms, u.sl, u.op, u.ui⟩, rfl, rfl, M⟩
section
variable {ts : List Ty} {rs : List Rk} {r t i : Int}
theorem qyi (h : okT rs.length r = false) : isS (ts.map Ty.k) (rs.map Rk.k) r t = (false, 7) := by
  unfold isS
  rw [if_neg (by rw [List.length_map, h]; simp)]
theorem qyj (h : okT ts.length t = false) : isS (ts.map Ty.k) (rs.map Rk.k) r t = (false, 7) := by
  unfold isS
  rw [if_neg (by rw [List.length_map, List.length_map, h]; simp)]
theorem zea (h1 : okT rs.length r = true) (h2 : okT ts.length t = true) {x : Rk} (hx : rs[r.toNat]? = some x) : isS (ts.map Ty.k) (rs.map Rk.k) r t = ((chT (prs (ts.map Ty.k)) ((x.kd : Nat) : Int)).any fun z => t == z, 0) := by
  unfold isS
  rw [if_pos (by rw [List.length_map, List.length_map]; exact ⟨h1, h2⟩), quh (xg hx)]
  rfl
theorem qoa {ks : List TK} {rr : List (Nat × List Tr)} (h : (isS ks rr r t).2 = 0) : okT rr.length r = true ∧ okT ks.length t = true := by
  unfold isS at h
  split at h
  · rename_i h1; exact h1
  · exact absurd h (by decide)
theorem zue {ks : List TK} {rr : List (Nat × List Tr)} (h : (isS ks rr r t).2 ≠ 0) : isS ks rr r t = (false, 7) := by
  unfold isS at h ⊢
  split at h
  · exact absurd rfl h
  · rename_i h1; rw [if_neg h1]
theorem qvf {ks : List TK} {rr : List (Nat × List Tr)} (h : (isS ks rr r t).2 ≠ 0) : plS ks rr r t i = (0, (isS ks rr r t).2) := by
  rw [zue h]
  unfold plS
  rw [if_neg h]
theorem qob {ks : List TK} {rr : List (Nat × List Tr)} (h : (isS ks rr r t).2 = 0) (h1 : (isS ks rr r t).1 = false) : plS ks rr r t i = (0, 10) := by
  unfold plS
  rw [if_pos h, if_neg (by rw [h1]; decide)]
theorem qgg {ks : List TK} {rr : List (Nat × List Tr)} (h : (isS ks rr r t).2 = 0) (h1 : (isS ks rr r t).1 = true) {k : TK} (hk : ks[t.toNat]? = some k) (hi : i < 0 ∨ ((k.fs.length : Nat) : Int) ≤ i) : plS ks rr r t i = (0, 1) := by
  unfold plS
  rw [if_pos h, if_pos h1, if_neg (by rw [qia hk]; omega)]
theorem qvg {ks : List TK} {rr : List (Nat × List Tr)} (h : (isS ks rr r t).2 = 0) (h1 : (isS ks rr r t).1 = true) {k : TK} (hk : ks[t.toNat]? = some k) (h2 : 0 ≤ i) (h3 : i < ((k.fs.length : Nat) : Int)) : plS ks rr r t i = (((cnt ks k.par : Nat) : Int) + i, 0) := by
  unfold plS
  rw [if_pos h, if_pos h1, qia hk, if_pos ⟨h2, h3⟩, qud hk]
end
theorem qza {ps : List Int} (hw : Wf ps) : ∀ (n : Nat) (s t : Int), -1 ≤ s → (s + 1).toNat ≤ n → t ∈ chn ps n s → ∃ pre, chn ps n s = pre ++ chT ps t
  | 0, s, t, _, _, h => by cases h
  | n + 1, s, t, h0, hn, h => by
    by_cases hs : s < 0
    · rw [chn, if_pos hs] at h; cases h
    · have hp := hw.at_ (t := s) (by omega)
      by_cases e : t = s
      · subst e
        exact ⟨[], by rw [List.nil_append]; exact qmf hw _ _ _ h0 hn (Nat.le_refl _)⟩
      · rw [chn, if_neg hs] at h ⊢
        rcases List.mem_cons.1 h with h | h
        · exact absurd h e
        · obtain ⟨pre, hq⟩ := qza hw n _ t hp.1 (by omega) h
          exact ⟨s :: pre, by rw [hq]; rfl⟩
theorem zuf {ks : List TK} (hw : Wf (prs ks)) {s t : Int} (h0 : -1 ≤ s) (h : t ∈ chT (prs ks) s) : cnt ks t ≤ cnt ks s := by
  obtain ⟨pre, e⟩ := qza hw _ s t h0 (Nat.le_refl _) h
  unfold cnt
  rw [show chT (prs ks) s = pre ++ chT (prs ks) t from e]
  unfold qmh
  rw [List.map_append, List.sum_append]
  omega
/-- A field that is found. -/
theorem qri {ks : List TK} {rr : List (Nat × List Tr)} (hW : WS ks rr) {r t i : Int} (h : (plS ks rr r t i).2 = 0) : ∃ x k, rr[r.toNat]? = some x ∧ ks[t.toNat]? = some k ∧ 0 ≤ r ∧ r < ((rr.length : Nat) : Int) ∧ 0 ≤ t ∧ t < ((ks.length : Nat) : Int) ∧ 0 ≤ i ∧ i < ((k.fs.length : Nat) : Int) ∧ plS ks rr r t i = (((cnt ks k.par : Nat) : Int) + i, 0) ∧ 0 ≤ (plS ks rr r t i).1 ∧ (plS ks rr r t i).1 < ((x.2.length : Nat) : Int) ∧ x.2.length ≤ 16 := by
  by_cases h1 : (isS ks rr r t).2 = 0
  · obtain ⟨q1, q2⟩ := qoa h1
    have a1 := ke q1
    have a2 := ke q2
    cases h2 : (isS ks rr r t).1 with
    | false => rw [qob h1 h2] at h; exact absurd h (by decide)
    | true =>
      have hk : ks[t.toNat]? = some (ks[t.toNat]'(by omega)) := List.getElem?_eq_getElem _
      have hx : rr[r.toNat]? = some (rr[r.toNat]'(by omega)) := List.getElem?_eq_getElem _
      generalize ks[t.toNat]'(by omega) = k at hk
      generalize rr[r.toNat]'(by omega) = x at hx
      by_cases h3 : 0 ≤ i ∧ i < ((k.fs.length : Nat) : Int)
      · have e := qvg h1 h2 hk h3.1 h3.2
        have hr := hW.rk x (List.mem_of_getElem? hx)
        have hm : t ∈ chT (prs ks) ((x.1 : Nat) : Int) := by
          unfold isS at h2
          rw [if_pos ⟨q1, q2⟩, quh hx] at h2
          obtain ⟨z, hz, ez⟩ := List.any_eq_true.1 h2
          rw [show t = z from eq_of_beq ez]
          exact hz
        have hc := zuf hW.wf (by omega) hm
        have hs := qmi hW.wf a2.1 hk
        have h16 := hW.cnt16 (t := ((x.1 : Nat) : Int)) (by omega)
        refine ⟨x, k, hx, hk, a1.1, a1.2, a2.1, a2.2, h3.1, h3.2, e, ?_, ?_, by omega⟩
        · rw [e]; show 0 ≤ ((cnt ks k.par : Nat) : Int) + i; omega
        · rw [e]; show ((cnt ks k.par : Nat) : Int) + i < _; omega
      · rw [qgg h1 h2 hk (by omega)] at h; exact absurd h (by show (1 : Int) ≠ 0; decide)
  · rw [qvf h1] at h; exact absurd h h1
/-- Get: the datum. -/
def gtT (ks : List TK) (rr : List (Nat × List Tr)) (r t i : Int) : Tr :=
  if (plS ks rr r t i).2 = 0 then (((rr[r.toNat]?).map fun x => (x.2[(plS ks rr r t i).1.toNat]?).getD jq.tr).getD jq.tr) else jq.tr
theorem zpe {ks : List TK} {rr : List (Nat × List Tr)} {r t i : Int} (h : (plS ks rr r t i).2 = 0) {x : Nat × List Tr} (hx : rr[r.toNat]? = some x) {d : Tr} (hd : x.2[(plS ks rr r t i).1.toNat]? = some d) : gtT ks rr r t i = d := by
  unfold gtT
  rw [if_pos h, hx]
  show (x.2[(plS ks rr r t i).1.toNat]?).getD jq.tr = d
  rw [hd]; rfl
theorem zpf {ks : List TK} {rr : List (Nat × List Tr)} {r t i : Int} (h : (plS ks rr r t i).2 ≠ 0) : gtT ks rr r t i = jq.tr := if_neg h
def zpg : Ty := ⟨⟨#[]⟩, 0, none, 0, [], none, 0, [], false, false, ⟨#[]⟩⟩
theorem qvh {ks : List TK} {rs : List Rk} {r : Int} (h : okT rs.length r = false) : yv ks (rs.map Rk.k) r = (0, 7) := by
  unfold yv
  rw [if_neg (by rw [List.length_map, h]; decide)]
theorem qzb {ks : List TK} {rs : List Rk} {r : Int} (h : okT rs.length r = true) {x : Rk} (hx : rs[r.toNat]? = some x) (ho : opq ks ((x.kd : Nat) : Int) = true) : yv ks (rs.map Rk.k) r = (0, 10) := by
  unfold yv
  rw [if_pos (by rw [List.length_map]; exact h), quh (xg hx), if_pos (by exact ho)]
theorem zhe {ks : List TK} {rs : List Rk} {r : Int} (h : okT rs.length r = true) {x : Rk} (hx : rs[r.toNat]? = some x) (ho : opq ks ((x.kd : Nat) : Int) = false) : yv ks (rs.map Rk.k) r = (((x.kd : Nat) : Int), 0) := by
  unfold yv
  rw [if_pos (by rw [List.length_map]; exact h), quh (xg hx), if_neg (by rw [show opq ks (((x.k).1 : Nat) : Int) = false from ho]; decide)]
  rfl
theorem qvi {ts : List Ty} {t : Int} (h : okT ts.length t = false) : flS (ts.map Ty.k) t = (0, 7) := by
  unfold flS
  rw [if_neg (by rw [List.length_map, h]; decide)]
theorem zeb {ts : List Ty} {t : Int} (h : okT ts.length t = true) : flS (ts.map Ty.k) t = (((cnt (ts.map Ty.k) t : Nat) : Int), 0) := by
  unfold flS
  rw [if_pos (by rw [List.length_map]; exact h)]
theorem zec {ts : List Ty} {n : Nat} {t : Int} {vs : List Tr} (h : okT ts.length t = false) : mkS (ts.map Ty.k) n t vs = (0, 7, false) := by
  unfold mkS
  rw [if_neg (by rw [List.length_map, h]; decide)]
theorem qvj {ts : List Ty} {n : Nat} {t : Int} {vs : List Tr} (h : okT ts.length t = true) (h1 : vs.length ≠ cnt (ts.map Ty.k) t) : mkS (ts.map Ty.k) n t vs = (0, 1, false) := by
  unfold mkS
  rw [if_pos (by rw [List.length_map]; exact h), if_neg h1]
theorem qoc {ts : List Ty} {n : Nat} {t : Int} {vs : List Tr} (h : okT ts.length t = true) (h1 : vs.length = cnt (ts.map Ty.k) t) (h2 : vs.all (jh zx) = false) : mkS (ts.map Ty.k) n t vs = (0, 2, false) := by
  unfold mkS
  rw [if_pos (by rw [List.length_map]; exact h), if_pos h1, if_neg (by rw [h2]; decide)]
theorem qod {ts : List Ty} {n : Nat} {t : Int} {vs : List Tr} (h : okT ts.length t = true) (h1 : vs.length = cnt (ts.map Ty.k) t) (h2 : vs.all (jh zx) = true) (h3 : ¬ n < 20000) : mkS (ts.map Ty.k) n t vs = (0, 9, false) := by
  unfold mkS
  rw [if_pos (by rw [List.length_map]; exact h), if_pos h1, if_pos h2, if_neg h3]
theorem zed {ts : List Ty} {n : Nat} {t : Int} {vs : List Tr} (h : okT ts.length t = true) (h1 : vs.length = cnt (ts.map Ty.k) t) (h2 : vs.all (jh zx) = true) (h3 : n < 20000) : mkS (ts.map Ty.k) n t vs = (((n : Nat) : Int), 0, true) := by
  unfold mkS
  rw [if_pos (by rw [List.length_map]; exact h), if_pos h1, if_pos h2, if_pos h3]
theorem zph {w : World} {b tc rc : Nat} {tz ro : Option Addr} {ts : List Ty} {rs : List Rk} (S : SR w b tz tc ts ro rc rs) (hW : WS (ts.map Ty.k) (rs.map Rk.k)) {r t : Int} : Calls Tryz.prog 18 #[pA b 0, iV r, iV t] w fun e w' => e = .returned (.tuple #[bV (isS (ts.map Ty.k) (rs.map Rk.k) r t).1, iV (isS (ts.map Ty.k) (rs.map Rk.k) r t).2]) ∧ Below w.heap.size w w' := by
 have hkl := hW.kl
 have hrl := hW.rl
 rw [List.length_map] at hkl hrl
 have M : Mg w w ([]) := Mg.start w
 refine qs (l := [(0, pA b 0), (1, iV r), (2, iV t)]) Tryz.func18 rfl Tryz.ntmps18 rfl rfl ?_
 intro Q hret hnorm hP a A
 refine wsk fun K1 hK1 => wrl ?_
 iterate 2 refine sda A λa A↦?_
 refine qa (hK1 _ _ (wsk fun K2 hK2 => wsk fun K3 hK3 => wrl ?_))
 iterate 2 refine sdm A λa A↦?_
 rcases tf (okT rs.length r) with hb4 | hb4
 ·
  have hx6 := ke hb4
  refine gcl A M (ef rfl rfl) (qdc (S.below M.bel) hW hb4) fun w7 hb5 M a A => ?_
  refine sda A λa A↦?_
  refine qa (hK3 _ _ (wsk fun K8 hK8 => wrl (sdm A λa A↦?_)))
  refine sdo (v := bV false) A (qg rfl rfl (fun w => by kernel_rfl)) λa A↦?_
  refine qa (hK8 _ _ (wp_cond_false (A.ev rfl) ?_))
  refine wp_skip (hK2 _ _ (wsk fun K9 hK9 => wsk fun K10 hK10 => wrl ?_))
  iterate 2 refine sdm A λa A↦?_
  rcases tf (okT ts.length t) with hb11 | hb11
  ·
   have hx13 := ke hb11
   refine gcl A M (ef rfl rfl) (vp (S.below M.bel) hW hb11) fun w14 hb12 M a A => ?_
   refine sda A λa A↦?_
   refine qa (hK10 _ _ (wsk fun K15 hK15 => wrl (sdm A λa A↦?_)))
   refine sdo (v := bV false) A (qg rfl rfl (fun w => by kernel_rfl)) λa A↦?_
   refine qa (hK15 _ _ (wp_cond_false (A.ev rfl) ?_))
   refine wp_skip (hK9 _ _ (wsk fun K16 hK16 => ?_))
   obtain ⟨rk17, br18, or19, ir20, mr21, rr22, lr23, Hr24⟩ := S.R.at_ (i := r.toNat) (by omega)
   have hrk25 := hW.rk _ (List.mem_of_getElem? (xg ir20))
   rw [List.length_map, show rk17.k.1 = rk17.kd from rfl, show rk17.k.2.length = rk17.vs.length from List.length_map _] at hrk25
   refine wrl ?_
   iterate 2 refine sdm A λa A↦?_
   refine sdo A (zh rfl) λa A↦?_
   refine sdo (v := pA b 1) A (qb ka rfl rfl) λa A↦?_
   refine sdo A (E.m_loadX M S.c1 qib rfl) λa A↦?_
   refine sdm A λa A↦?_
   refine sdo (v := pA br18 (or19 + r.toNat * 2)) A (qx (k := r.toNat) Tryz.underlying71 (by kernel_rfl) rfl rfl (by first | rfl | omega) lr23 (by omega)) λa A↦?_
   refine sdo (v := pA br18 (or19 + r.toNat * 2)) A (qb zof rfl rfl) λa A↦?_
   refine sdo A (jj (j := 0) M Hr24 o93 rfl rfl rfl) λa A↦?_
   refine sct A (ef rfl rfl) (qie (S.below M.bel) hW (by omega) (by omega)) ?_
   rintro _ w29 ⟨so26, ca27, rfl, hM28⟩
   replace M : Mg w w29 (.row 3 1 (.slice so26 ((chT (prs (ts.map Ty.k)) (((rk17.kd : Nat) : Int))).length) ca27) ((chT (prs (ts.map Ty.k)) (((rk17.kd : Nat) : Int))).length) (inC (chT (prs (ts.map Ty.k)) (((rk17.kd : Nat) : Int)))) :: []) := (M.both hM28 (qk qm) (qi (by simp) (qk qm)))
   refine ⟨_, rfl, ?_⟩
   intro a A
   refine sdm A λa A↦?_
   refine gcl A M (ef rfl rfl) (qqa (l := (chT (prs (ts.map Ty.k)) (((rk17.kd : Nat) : Int)))) (rc_own (M.has 0 rfl)) (by have h9 := ub (prs (ts.map Ty.k)) (((rk17.kd : Nat) : Int)); omega)) fun w31 hb30 M a A => ?_
   iterate 2 refine sda A λa A↦?_
   refine qa (hK16 _ _ (wp_ret (hret _ _ (en2 A rfl (qf rfl) (qf rfl) ?_))))
   exact ⟨by rw [zea hb4 hb11 ir20], M.bel⟩
  ·
   have hx33 := qgb hb11
   refine gcl A M (ef rfl rfl) (kv (S.below M.bel) hW hb11) fun w34 hb32 M a A => ?_
   refine sda A λa A↦?_
   refine qa (hK10 _ _ (wsk fun K35 hK35 => wrl (sdm A λa A↦?_)))
   refine sdo (v := bV true) A (qg rfl rfl (fun w => by kernel_rfl)) λa A↦?_
   refine qa (hK35 _ _ (wp_cond_true (A.ev rfl) ?_))
   refine wsk fun K36 hK36 => wrl (sdm A λa A↦?_)
   iterate 2 refine sda A λa A↦?_
   refine qa (hK36 _ _ (wp_ret (hret _ _ (en2 A rfl (qf rfl) (qf rfl) ?_))))
   exact ⟨by rw [qyj hb11], M.bel⟩
 ·
  have hx38 := qgb hb4
  refine gcl A M (ef rfl rfl) (qdd (S.below M.bel) hW hb4) fun w39 hb37 M a A => ?_
  refine sda A λa A↦?_
  refine qa (hK3 _ _ (wsk fun K40 hK40 => wrl (sdm A λa A↦?_)))
  refine sdo (v := bV true) A (qg rfl rfl (fun w => by kernel_rfl)) λa A↦?_
  refine qa (hK40 _ _ (wp_cond_true (A.ev rfl) ?_))
  refine wsk fun K41 hK41 => wrl (sdm A λa A↦?_)
  iterate 2 refine sda A λa A↦?_
  refine qa (hK41 _ _ (wp_ret (hret _ _ (en2 A rfl (qf rfl) (qf rfl) ?_))))
  exact ⟨by rw [qyi hb4], M.bel⟩
theorem ut {w : World} {b tc rc : Nat} {tz ro : Option Addr} {ts : List Ty} {rs : List Rk} (S : SR w b tz tc ts ro rc rs) (hW : WS (ts.map Ty.k) (rs.map Rk.k)) {r t i : Int} : Calls Tryz.prog 37 #[pA b 0, iV r, iV t, iV i] w fun e w' => e = .returned (.tuple #[iV (plS (ts.map Ty.k) (rs.map Rk.k) r t i).1, iV (plS (ts.map Ty.k) (rs.map Rk.k) r t i).2]) ∧ Below w.heap.size w w' := by
 have hkl := hW.kl
 have hrl := hW.rl
 rw [List.length_map] at hkl hrl
 have M : Mg w w ([]) := Mg.start w
 refine qs (l := [(0, pA b 0), (1, iV r), (2, iV t), (3, iV i)]) Tryz.func37 rfl Tryz.ntmps37 rfl rfl ?_
 intro Q hret hnorm hP a A
 refine wsk fun K1 hK1 => wrl ?_
 iterate 2 refine sda A λa A↦?_
 refine qa (hK1 _ _ (wsk fun K2 hK2 => wrl ?_))
 iterate 3 refine sdm A λa A↦?_
 refine gcl A M (ef rfl rfl) (zph (S.below M.bel) hW) fun w4 hb3 M a A => ?_
 refine sdm A λa A↦?_
 iterate 2 refine sdo A (zb (vs := [bV ((isS (ts.map Ty.k) (rs.map Rk.k) r t).1), iV ((isS (ts.map Ty.k) (rs.map Rk.k) r t).2)]) rfl rfl) λa A↦?_
 iterate 2 refine sda A λa A↦?_
 refine qa (hK2 _ _ (wsk fun K5 hK5 => wp_block (wsk fun K6 hK6 => wrl (sdm A λa A↦?_))))
 rcases tf (((isS (ts.map Ty.k) (rs.map Rk.k) r t).2 != 0)) with hb7 | hb7
 ·
  have hb7' := bne_iff_ne.1 hb7
  refine sdc A zg hb7 λa A↦?_
  refine sda A λa A↦?_
  refine qa (hK6 _ _ (wp_cond_true (A.ev rfl) ?_))
  refine wsk fun K8 hK8 => wrl (sdm A λa A↦?_)
  iterate 2 refine sda A λa A↦?_
  refine qa (hK8 _ _ (wp_ret (hret _ _ (en2 A rfl (qf rfl) (qf rfl) ?_))))
  exact ⟨by rw [qvf (i := i) (show (isS (ts.map Ty.k) (rs.map Rk.k) r t).2 ≠ 0 by omega)], M.bel⟩
 ·
  have hb7' := bne_eq_false_iff_eq.1 hb7
  refine sdc A zg hb7 λa A↦?_
  refine sda A λa A↦?_
  refine qa (hK6 _ _ (wp_cond_false (A.ev rfl) ?_))
  refine wsk fun K9 hK9 => wrl (sdm A λa A↦?_)
  refine sdo (v := bV (!((isS (ts.map Ty.k) (rs.map Rk.k) r t).1))) A (zi rfl zm) λa A↦?_
  refine sda A λa A↦?_
  refine qa (hK9 _ _ ?_)
  refine wp_cond_split (t := !((isS (ts.map Ty.k) (rs.map Rk.k) r t).1)) (A.ev rfl) (fun hc10 => ?_) (fun hc10 => ?_)
  ·
   refine wsk fun K11 hK11 => wrl ?_
   iterate 2 refine sda A λa A↦?_
   refine qa (hK11 _ _ (wp_ret (hret _ _ (en2 A rfl (qf rfl) (qf rfl) ?_))))
   exact ⟨by rw [qob (i := i) (show (isS (ts.map Ty.k) (rs.map Rk.k) r t).2 = 0 by omega) (by simpa using hc10)], M.bel⟩
  ·
   refine wsk fun K12 hK12 => ?_
   have hz9 := qoa (show (isS (ts.map Ty.k) (rs.map Rk.k) r t).2 = 0 by omega)
   rw [List.length_map, List.length_map] at hz9
   have hr9 := ke hz9.1
   have ht9 := ke hz9.2
   obtain ⟨ty13, bt14, ot15, it16, mt17, rt18, lt19, Ht20⟩ := S.T.at_ (i := t.toNat) (by omega)
   have hnf := hW.nf16 (zn it16)
   have hpl := hW.par_lt (zn it16)
   rw [show ty13.k.fs.length = ty13.fs.length from rfl, show ty13.k.par = ty13.par from rfl] at hnf
   rw [show ty13.k.par = ty13.par from rfl] at hpl
   refine wrl (sdm A λa A↦?_)
   rcases tf (decide (i < 0)) with hb21 | hb21
   ·
    have hb21' := of_decide_eq_true hb21
    refine sdc A qw hb21 λa A↦?_
    refine sdm A λa A↦?_
    iterate 11 refine qj A rfl rfl rfl λa A↦?_
    refine sdk (v := bV true) A λa A↦?_
    refine sda A λa A↦?_
    refine qa (hK12 _ _ (wp_cond_true (A.ev rfl) ?_))
    refine wsk fun K22 hK22 => wrl ?_
    iterate 2 refine sda A λa A↦?_
    refine qa (hK22 _ _ (wp_ret (hret _ _ (en2 A rfl (qf rfl) (qf rfl) ?_))))
    exact ⟨by rw [qgg (show (isS (ts.map Ty.k) (rs.map Rk.k) r t).2 = 0 by omega) (by simpa using hc10) (zn it16) (show i < 0 ∨ ((ty13.fs.length : Nat) : Int) ≤ i by omega)], M.bel⟩
   ·
    have hb21' := of_decide_eq_false hb21
    refine sdc A qw hb21 λa A↦?_
    iterate 3 refine sdm A λa A↦?_
    refine sdo A (zh rfl) λa A↦?_
    refine sdo (v := pA b 0) A (qb jw rfl rfl) λa A↦?_
    refine sdo A (E.m_loadX M S.c0 xn rfl) λa A↦?_
    refine sdm A λa A↦?_
    refine sdo (v := pA bt14 (ot15 + t.toNat * 7)) A (qx (k := t.toNat) Tryz.underlying26 (by kernel_rfl) rfl rfl (by first | rfl | omega) lt19 (by omega)) λa A↦?_
    refine sdo (v := pA bt14 (ot15 + t.toNat * 7 + 2)) A (qb xu rfl rfl) λa A↦?_
    refine sdo A (jj (j := 2) M Ht20 qai rfl rfl rfl) λa A↦?_
    refine sdo A (qn Tryz.underlying30 rfl) λa A↦?_
    rcases tf (decide (((ty13.fs.length : Nat) : Int) ≤ i)) with hb23 | hb23
    ·
     have hb23' := of_decide_eq_true hb23
     refine sdc A zl hb23 λa A↦?_
     refine sdk (v := bV true) A λa A↦?_
     refine sda A λa A↦?_
     refine qa (hK12 _ _ (wp_cond_true (A.ev rfl) ?_))
     refine wsk fun K24 hK24 => wrl ?_
     iterate 2 refine sda A λa A↦?_
     refine qa (hK24 _ _ (wp_ret (hret _ _ (en2 A rfl (qf rfl) (qf rfl) ?_))))
     exact ⟨by rw [qgg (show (isS (ts.map Ty.k) (rs.map Rk.k) r t).2 = 0 by omega) (by simpa using hc10) (zn it16) (show i < 0 ∨ ((ty13.fs.length : Nat) : Int) ≤ i by omega)], M.bel⟩
    ·
     have hb23' := of_decide_eq_false hb23
     refine sdc A zl hb23 λa A↦?_
     refine sdk (v := bV false) A λa A↦?_
     refine sda A λa A↦?_
     refine qa (hK12 _ _ (wp_cond_false (A.ev rfl) ?_))
     refine wp_skip (hK5 _ _ (wsk fun K25 hK25 => wrl ?_))
     iterate 2 refine sdm A λa A↦?_
     refine sdo A (zh rfl) λa A↦?_
     refine sdo (v := pA b 0) A (qb jw rfl rfl) λa A↦?_
     refine sdo A (E.m_loadX M S.c0 xn rfl) λa A↦?_
     refine sdm A λa A↦?_
     refine sdo (v := pA bt14 (ot15 + t.toNat * 7)) A (qx (k := t.toNat) Tryz.underlying26 (by kernel_rfl) rfl rfl (by first | rfl | omega) lt19 (by omega)) λa A↦?_
     refine sdo (v := pA bt14 (ot15 + t.toNat * 7 + 1)) A (qb ju rfl rfl) λa A↦?_
     refine sdo A (jj (j := 1) M Ht20 o93 rfl rfl rfl) λa A↦?_
     refine gcl A M (ef rfl rfl) (vq (S.below M.bel) hW (by omega) (by omega)) fun w27 hb26 M a A => ?_
     refine sdm A λa A↦?_
     refine sdo (v := iV (((cnt (ts.map Ty.k) ty13.par : Nat) : Int) + i)) A (qg rfl rfl (ja (ji (by omega) (by omega)))) λa A↦?_
     iterate 2 refine sda A λa A↦?_
     refine qa (hK25 _ _ (wp_ret (hret _ _ (en2 A rfl (qf rfl) (qf rfl) ?_))))
     exact ⟨by rw [qvg (show (isS (ts.map Ty.k) (rs.map Rk.k) r t).2 = 0 by omega) (by simpa using hc10) (zn it16) (show 0 ≤ i by omega) (show i < ((ty13.fs.length : Nat) : Int) by omega)]; rfl, M.bel⟩
theorem zee {w : World} {b tc rc : Nat} {tz ro : Option Addr} {ts : List Ty} {rs : List Rk} (S : SR w b tz tc ts ro rc rs) (hW : WS (ts.map Ty.k) (rs.map Rk.k)) {t : Int} : Calls Tryz.prog 22 #[pA b 0, iV t] w fun e w' => e = .returned (.tuple #[iV (flS (ts.map Ty.k) t).1, iV (flS (ts.map Ty.k) t).2]) ∧ Below w.heap.size w w' := by
 have hkl := hW.kl
 have hrl := hW.rl
 rw [List.length_map] at hkl hrl
 have M : Mg w w ([]) := Mg.start w
 refine qs (l := [(0, pA b 0), (1, iV t)]) Tryz.func22 rfl Tryz.ntmps22 rfl rfl ?_
 intro Q hret hnorm hP a A
 refine wsk fun K1 hK1 => wrl ?_
 iterate 2 refine sda A λa A↦?_
 refine qa (hK1 _ _ (wsk fun K2 hK2 => wsk fun K3 hK3 => wrl ?_))
 iterate 2 refine sdm A λa A↦?_
 rcases tf (okT ts.length t) with hb4 | hb4
 ·
  have hx6 := ke hb4
  refine gcl A M (ef rfl rfl) (vp (S.below M.bel) hW hb4) fun w7 hb5 M a A => ?_
  refine sda A λa A↦?_
  refine qa (hK3 _ _ (wsk fun K8 hK8 => wrl (sdm A λa A↦?_)))
  refine sdo (v := bV false) A (qg rfl rfl (fun w => by kernel_rfl)) λa A↦?_
  refine qa (hK8 _ _ (wp_cond_false (A.ev rfl) ?_))
  refine wp_skip (hK2 _ _ (wsk fun K9 hK9 => wrl ?_))
  iterate 2 refine sdm A λa A↦?_
  refine gcl A M (ef rfl rfl) (vq (S.below M.bel) hW (by omega) (by omega)) fun w11 hb10 M a A => ?_
  iterate 2 refine sda A λa A↦?_
  refine qa (hK9 _ _ (wp_ret (hret _ _ (en2 A rfl (qf rfl) (qf rfl) ?_))))
  exact ⟨by rw [zeb hb4], M.bel⟩
 ·
  have hx13 := qgb hb4
  refine gcl A M (ef rfl rfl) (kv (S.below M.bel) hW hb4) fun w14 hb12 M a A => ?_
  refine sda A λa A↦?_
  refine qa (hK3 _ _ (wsk fun K15 hK15 => wrl (sdm A λa A↦?_)))
  refine sdo (v := bV true) A (qg rfl rfl (fun w => by kernel_rfl)) λa A↦?_
  refine qa (hK15 _ _ (wp_cond_true (A.ev rfl) ?_))
  refine wsk fun K16 hK16 => wrl (sdm A λa A↦?_)
  iterate 2 refine sda A λa A↦?_
  refine qa (hK16 _ _ (wp_ret (hret _ _ (en2 A rfl (qf rfl) (qf rfl) ?_))))
  exact ⟨by rw [qvi hb4], M.bel⟩
theorem zef {w : World} {b tc rc : Nat} {tz ro : Option Addr} {ts : List Ty} {rs : List Rk} (S : SR w b tz tc ts ro rc rs) (hW : WS (ts.map Ty.k) (rs.map Rk.k)) {r : Int} : Calls Tryz.prog 20 #[pA b 0, iV r] w fun e w' => e = .returned (.tuple #[iV (yv (ts.map Ty.k) (rs.map Rk.k) r).1, iV (yv (ts.map Ty.k) (rs.map Rk.k) r).2]) ∧ Below w.heap.size w w' := by
 have hkl := hW.kl
 have hrl := hW.rl
 rw [List.length_map] at hkl hrl
 have M : Mg w w ([]) := Mg.start w
 refine qs (l := [(0, pA b 0), (1, iV r)]) Tryz.func20 rfl Tryz.ntmps20 rfl rfl ?_
 intro Q hret hnorm hP a A
 refine wsk fun K1 hK1 => wrl ?_
 iterate 2 refine sda A λa A↦?_
 refine qa (hK1 _ _ (wsk fun K2 hK2 => wsk fun K3 hK3 => wrl ?_))
 iterate 2 refine sdm A λa A↦?_
 rcases tf (okT rs.length r) with hb4 | hb4
 ·
  have hx6 := ke hb4
  refine gcl A M (ef rfl rfl) (qdc (S.below M.bel) hW hb4) fun w7 hb5 M a A => ?_
  refine sda A λa A↦?_
  refine qa (hK3 _ _ (wsk fun K8 hK8 => wrl (sdm A λa A↦?_)))
  refine sdo (v := bV false) A (qg rfl rfl (fun w => by kernel_rfl)) λa A↦?_
  refine qa (hK8 _ _ (wp_cond_false (A.ev rfl) ?_))
  refine wp_skip (hK2 _ _ (wsk fun K9 hK9 => ?_))
  obtain ⟨rk10, br11, or12, ir13, mr14, rr15, lr16, Hr17⟩ := S.R.at_ (i := r.toNat) (by omega)
  have hrk18 := hW.rk _ (List.mem_of_getElem? (xg ir13))
  rw [List.length_map, show rk10.k.1 = rk10.kd from rfl, show rk10.k.2.length = rk10.vs.length from List.length_map _] at hrk18
  refine wrl (sdm A λa A↦?_)
  refine sdo A (zh rfl) λa A↦?_
  refine sdo (v := pA b 1) A (qb ka rfl rfl) λa A↦?_
  refine sdo A (E.m_loadX M S.c1 qib rfl) λa A↦?_
  refine sdm A λa A↦?_
  refine sdo (v := pA br11 (or12 + r.toNat * 2)) A (qx (k := r.toNat) Tryz.underlying71 (by kernel_rfl) rfl rfl (by first | rfl | omega) lr16 (by omega)) λa A↦?_
  refine sdo (v := pA br11 (or12 + r.toNat * 2)) A (qb zof rfl rfl) λa A↦?_
  refine sdo A (jj (j := 0) M Hr17 o93 rfl rfl rfl) λa A↦?_
  refine sda A λa A↦?_
  refine qa (hK9 _ _ (wsk fun K19 hK19 => wsk fun K20 hK20 => wrl ?_))
  iterate 2 refine sdm A λa A↦?_
  rcases tf (opq (ts.map Ty.k) (((rk10.kd : Nat) : Int))) with hb21 | hb21
  ·
   refine gcl A M (ef rfl rfl) ((hb21 ▸ qgd (S.below M.bel) hW (by omega) (by omega))) fun w23 hb22 M a A => ?_
   refine qa (hK20 _ _ (wp_cond_true (A.ev rfl) ?_))
   refine wsk fun K24 hK24 => wrl ?_
   iterate 2 refine sda A λa A↦?_
   refine qa (hK24 _ _ (wp_ret (hret _ _ (en2 A rfl (qf rfl) (qf rfl) ?_))))
   exact ⟨by rw [qzb hb4 ir13 hb21], M.bel⟩
  ·
   refine gcl A M (ef rfl rfl) ((hb21 ▸ qgd (S.below M.bel) hW (by omega) (by omega))) fun w26 hb25 M a A => ?_
   refine qa (hK20 _ _ (wp_cond_false (A.ev rfl) ?_))
   refine wp_skip (hK19 _ _ (wsk fun K27 hK27 => wrl (sdm A λa A↦?_)))
   iterate 2 refine sda A λa A↦?_
   refine qa (hK27 _ _ (wp_ret (hret _ _ (en2 A rfl (qf rfl) (qf rfl) ?_))))
   exact ⟨by rw [zhe hb4 ir13 hb21], M.bel⟩
 ·
  have hx29 := qgb hb4
  refine gcl A M (ef rfl rfl) (qdd (S.below M.bel) hW hb4) fun w30 hb28 M a A => ?_
  refine sda A λa A↦?_
  refine qa (hK3 _ _ (wsk fun K31 hK31 => wrl (sdm A λa A↦?_)))
  refine sdo (v := bV true) A (qg rfl rfl (fun w => by kernel_rfl)) λa A↦?_
  refine qa (hK31 _ _ (wp_cond_true (A.ev rfl) ?_))
  refine wsk fun K32 hK32 => wrl (sdm A λa A↦?_)
  iterate 2 refine sda A λa A↦?_
  refine qa (hK32 _ _ (wp_ret (hret _ _ (en2 A rfl (qf rfl) (qf rfl) ?_))))
  exact ⟨by rw [qvh hb4], M.bel⟩
theorem zug {w : World} {b tc rc : Nat} {tz ro : Option Addr} {ts : List Ty} {rs : List Rk} (S : SR w b tz tc ts ro rc rs) (hW : WS (ts.map Ty.k) (rs.map Rk.k)) {t : Int} : Calls Tryz.prog 23 #[pA b 0, iV t] w fun e w' => ∃ (t2 : Ty) (ev : Int), e = .returned (.tuple #[.agg t2.c.toArray, iV ev]) ∧ ((okT ts.length t = true ∧ ev = 0 ∧ (ts.map Ty.k)[t.toNat]? = some t2.k) ∨ (okT ts.length t = false ∧ ev = 7)) ∧ Mg w w' [.row 9 1 (.slice t2.fo t2.fs.length t2.fc) t2.fs.length (E.strC t2.fs), .row 4 1 (.slice t2.mo t2.ms.length t2.mc) t2.ms.length (E.boolC t2.ms)] := by
 have hkl := hW.kl
 have hrl := hW.rl
 rw [List.length_map] at hkl hrl
 have M : Mg w w ([]) := Mg.start w
 refine qs (l := [(0, pA b 0), (1, iV t)]) Tryz.func23 rfl Tryz.ntmps23 rfl rfl ?_
 intro Q hret hnorm hP a A
 refine wsk fun K1 hK1 => wrl (zy (vs := [.string (⟨#[]⟩), iV 0, .slice none 0 0, .slice none 0 0, bV false, bV false, .string (⟨#[]⟩)]) (t := 33) A M rfl rfl rfl pg (zv (z := .agg #[.string (⟨#[]⟩), iV 0, .slice none 0 0, .slice none 0 0, bV false, bV false, .string (⟨#[]⟩)]) (by kernel_rfl) rfl) (by decide) ?_)
 intro g2 w3 M a A
 refine sda A λa A↦?_
 refine qa (hK1 _ _ (wsk fun K4 hK4 => wsk fun K5 hK5 => wrl ?_))
 iterate 2 refine sdm A λa A↦?_
 rcases tf (okT ts.length t) with hb6 | hb6
 ·
  have hx8 := ke hb6
  refine gcl A M (ef rfl rfl) (vp (S.below M.bel) hW hb6) fun w9 hb7 M a A => ?_
  refine sda A λa A↦?_
  refine qa (hK5 _ _ (wsk fun K10 hK10 => wrl (sdm A λa A↦?_)))
  refine sdo (v := bV false) A (qg rfl rfl (fun w => by kernel_rfl)) λa A↦?_
  refine qa (hK10 _ _ (wp_cond_false (A.ev rfl) ?_))
  refine wp_skip (hK4 _ _ (wsk fun K11 hK11 => ?_))
  obtain ⟨ty12, bt13, ot14, it15, mt16, rt17, lt18, Ht19⟩ := S.T.at_ (i := t.toNat) (by omega)
  have hnf := hW.nf16 (zn it15)
  have hml := hW.ml _ (List.mem_of_getElem? (zn it15))
  have hzs := hW.zs _ (List.mem_of_getElem? (zn it15))
  rw [show ty12.k.fs.length = ty12.fs.length from rfl] at hnf
  rw [show ty12.k.fs.length = ty12.fs.length from rfl, show ty12.k.ms.length = ty12.ms.length from rfl] at hml
  refine wrl (sdm A λa A↦?_)
  refine sdo A (zh rfl) λa A↦?_
  refine sdo (v := pA b 0) A (qb jw rfl rfl) λa A↦?_
  refine sdo A (E.m_loadX M S.c0 xn rfl) λa A↦?_
  refine sdm A λa A↦?_
  refine sdo (v := pA bt13 (ot14 + t.toNat * 7)) A (qx (k := t.toNat) Tryz.underlying26 (by kernel_rfl) rfl rfl (by first | rfl | omega) lt18 (by omega)) λa A↦?_
  refine sdo (v := .agg ty12.c.toArray) A (xa M Ht19 qaj rfl rfl) λa A↦?_
  refine sct A (ef rfl rfl) (ug (u := ty12) (rt17.below M.bel) (by omega) (by omega) hzs.1 hzs.2.1 hzs.2.2) ?_
  rintro _ w21 ⟨t2, rfl, hk2, hM20⟩
  replace M : Mg w w21 (.row 9 1 (.slice t2.fo t2.fs.length t2.fc) t2.fs.length (E.strC t2.fs) :: .row 4 1 (.slice t2.mo t2.ms.length t2.mc) t2.ms.length (E.boolC t2.ms) :: .obj g2 (.cells #[.string (⟨#[]⟩), iV 0, .slice none 0 0, .slice none 0 0, bV false, bV false, .string (⟨#[]⟩)] 33) :: []) := (M.both hM20 (qi (by simp) (qk qm)) (qi (by simp) (qi (by simp) (qk qm))))
  refine ⟨_, rfl, ?_⟩
  intro a A
  refine zq (L' := (.row 9 1 (.slice t2.fo t2.fs.length t2.fc) t2.fs.length (E.strC t2.fs) :: .row 4 1 (.slice t2.mo t2.ms.length t2.mc) t2.ms.length (E.boolC t2.ms) :: .obj g2 (.cells t2.c.toArray 33) :: [])) A M rfl rfl (za rfl rfl rfl (by kernel_rfl) M 2 rfl rfl rfl) 2 rfl rfl rfl ?_
  intro w22 M
  refine sda A λa A↦?_
  refine qa (hK11 _ _ (wp_ret (hret _ _ (en2 A rfl (zu M qaj rfl 2 rfl (cs := [.string t2.nm, iV t2.par, .slice t2.fo t2.fs.length t2.fc, .slice t2.mo t2.ms.length t2.mc, bV t2.sl, bV t2.op, .string t2.ui]) rfl rfl) (qf rfl) ?_))))
  replace M : Mg w w22 (.row 9 1 (.slice t2.fo t2.fs.length t2.fc) t2.fs.length (E.strC t2.fs) :: .row 4 1 (.slice t2.mo t2.ms.length t2.mc) t2.ms.length (E.boolC t2.ms) :: []) := ((M.bring 1 rfl rfl).bring 1 rfl rfl).sub (cc (cc (cn (.refl _))))
  exact ⟨t2, _, rfl, .inl ⟨hb6, rfl, by rw [zn it15, hk2]⟩, M⟩
 ·
  have hx24 := qgb hb6
  refine gcl A M (ef rfl rfl) (kv (S.below M.bel) hW hb6) fun w25 hb23 M a A => ?_
  refine sda A λa A↦?_
  refine qa (hK5 _ _ (wsk fun K26 hK26 => wrl (sdm A λa A↦?_)))
  refine sdo (v := bV true) A (qg rfl rfl (fun w => by kernel_rfl)) λa A↦?_
  refine qa (hK26 _ _ (wp_cond_true (A.ev rfl) ?_))
  refine wsk fun K27 hK27 => wrl (sdo (v := .agg #[.string (⟨#[]⟩), iV 0, .slice none 0 0, .slice none 0 0, bV false, bV false, .string (⟨#[]⟩)]) A (jb rfl (fun w => by kernel_rfl)) λa A↦?_)
  refine sdm A λa A↦?_
  refine zq (L' := (.obj g2 (.cells #[.string (⟨#[]⟩), iV 0, .slice none 0 0, .slice none 0 0, bV false, bV false, .string (⟨#[]⟩)] 33) :: [])) A M rfl rfl (za rfl rfl rfl (by kernel_rfl) M 0 rfl rfl rfl) 0 rfl rfl rfl ?_
  intro w28 M
  refine sda A λa A↦?_
  refine qa (hK27 _ _ (wp_ret (hret _ _ (en2 A rfl (zu M qaj rfl 0 rfl (cs := [.string (⟨#[]⟩), iV 0, .slice none 0 0, .slice none 0 0, bV false, bV false, .string (⟨#[]⟩)]) rfl rfl) (qf rfl) ?_))))
  replace M : Mg w w28 ([]) := by
   have h9 := M.sub (cn (.refl _))
   exact h9
  exact ⟨zpg, _, rfl, .inr ⟨hb6, rfl⟩, (M.nilRow (qk qm) 4 1).nilRow (qi (by simp) (qk qm)) 9 1⟩
theorem zhf {w : World} {b tc rc : Nat} {tz ro : Option Addr} {ts : List Ty} {rs : List Rk} (S : SR w b tz tc ts ro rc rs) (hW : WS (ts.map Ty.k) (rs.map Rk.k)) {r t i : Int} : Calls Tryz.prog 13 #[pA b 0, iV r, iV t, iV i] w fun e w' => ∃ d2 : Dt, e = .returned (.tuple #[.agg (d2.d.cells d2.ts.length).toArray, iV (plS (ts.map Ty.k) (rs.map Rk.k) r t i).2]) ∧ (d2.rd w' ∧ d2.tr = gtT (ts.map Ty.k) (rs.map Rk.k) r t i ∧ d2.at_ (w.heap.size ≤ ·)) ∧ Below w.heap.size w w' := by
 have hkl := hW.kl
 have hrl := hW.rl
 rw [List.length_map] at hkl hrl
 have M : Mg w w ([]) := Mg.start w
 refine qs (l := [(0, pA b 0), (1, iV r), (2, iV t), (3, iV i)]) Tryz.func13 rfl Tryz.ntmps13 rfl rfl ?_
 intro Q hret hnorm hP a A
 refine wsk fun K1 hK1 => wrl (zy (vs := (jq.d.cells jq.ts.length)) (t := 42) A M rfl rfl rfl pg (zv (z := .agg (jq.d.cells jq.ts.length).toArray) (by kernel_rfl) rfl) (by decide) ?_)
 intro g2 w3 M a A
 refine sda A λa A↦?_
 refine qa (hK1 _ _ (wsk fun K4 hK4 => wrl ?_))
 iterate 4 refine sdm A λa A↦?_
 refine gcl A M (ef rfl rfl) (ut (S.below M.bel) hW) fun w6 hb5 M a A => ?_
 refine sdm A λa A↦?_
 iterate 2 refine sdo A (zb (vs := [iV ((plS (ts.map Ty.k) (rs.map Rk.k) r t i).1), iV ((plS (ts.map Ty.k) (rs.map Rk.k) r t i).2)]) rfl rfl) λa A↦?_
 iterate 2 refine sda A λa A↦?_
 refine qa (hK4 _ _ (wsk fun K7 hK7 => wsk fun K8 hK8 => wrl (sdm A λa A↦?_)))
 rcases tf (((plS (ts.map Ty.k) (rs.map Rk.k) r t i).2 != 0)) with hb9 | hb9
 ·
  have hb9' := bne_iff_ne.1 hb9
  refine sdc A zg hb9 λa A↦?_
  refine qa (hK8 _ _ (wp_cond_true (A.ev rfl) ?_))
  refine wsk fun K10 hK10 => wrl (sdo (v := .agg (jq.d.cells jq.ts.length).toArray) A (jb rfl (fun w => by kernel_rfl)) λa A↦?_)
  refine sdm A λa A↦?_
  refine zq (L' := (.obj g2 (.cells (jq.d.cells jq.ts.length).toArray 42) :: [])) A M rfl rfl (za rfl rfl rfl (by kernel_rfl) M 0 rfl rfl rfl) 0 rfl rfl rfl ?_
  intro w11 M
  refine sda A λa A↦?_
  refine qa (hK10 _ _ (wp_ret (hret _ _ (en2 A rfl (zu M xz rfl 0 rfl (cs := [iV 0, iV 0, bV false, .slice none 0 0, .slice none 0 0, bV false, .slice none 0 0, .slice none 0 0, .string (⟨#[]⟩), .slice none 0 0, .slice none 0 0]) rfl rfl) (qf rfl) ?_))))
  exact ⟨jq, rfl, ⟨qxf _, (zpf (show (plS (ts.map Ty.k) (rs.map Rk.k) r t i).2 ≠ 0 by omega)).symm, zni _⟩, M.bel⟩
 ·
  have hb9' := bne_eq_false_iff_eq.1 hb9
  refine sdc A zg hb9 λa A↦?_
  refine qa (hK8 _ _ (wp_cond_false (A.ev rfl) ?_))
  refine wp_skip (hK7 _ _ (wsk fun K12 hK12 => ?_))
  obtain ⟨x9, k9, hx9, hk9, p1, p2, p3, p4, p5, p6, p7, p8, p9, p10⟩ := qri hW (show (plS (ts.map Ty.k) (rs.map Rk.k) r t i).2 = 0 by omega)
  rw [List.length_map] at p2 p4
  obtain ⟨rk13, br14, or15, ir16, mr17, rr18, lr19, Hr20⟩ := S.R.at_ (i := r.toNat) (by omega)
  obtain rfl : x9 = rk13.k := Option.some.inj (hx9.symm.trans (xg ir16))
  rw [show rk13.k.2.length = rk13.vs.length from List.length_map _] at p9 p10
  refine wrl (sdm A λa A↦?_)
  refine sdo A (zh rfl) λa A↦?_
  refine sdo (v := pA b 1) A (qb ka rfl rfl) λa A↦?_
  refine sdo A (E.m_loadX M S.c1 qib rfl) λa A↦?_
  refine sdm A λa A↦?_
  refine sdo (v := pA br14 (or15 + r.toNat * 2)) A (qx (k := r.toNat) Tryz.underlying71 (by kernel_rfl) rfl rfl (by first | rfl | omega) lr19 (by omega)) λa A↦?_
  refine sdo (v := pA br14 (or15 + r.toNat * 2 + 1)) A (qb zog rfl rfl) λa A↦?_
  refine sdo A (jj (j := 1) M Hr20 kw rfl rfl rfl) λa A↦?_
  refine sdm A λa A↦?_
  obtain ⟨tk21, btk21, otk21, itk21, mtk21, rtk21_, ltk21, Htk21⟩ := zte rr18.v rr18.d (i := ((plS (ts.map Ty.k) (rs.map Rk.k) r t i).1).toNat) (by omega)
  refine sdo (v := pA btk21 (otk21 + ((plS (ts.map Ty.k) (rs.map Rk.k) r t i).1).toNat * 11)) A (qx (k := ((plS (ts.map Ty.k) (rs.map Rk.k) r t i).1).toNat) Tryz.underlying34 (by kernel_rfl) rfl rfl (by first | rfl | omega) ltk21 (by omega)) λa A↦?_
  refine sdo A (xa M Htk21 xz rfl rfl) λa A↦?_
  have hlt9 := (Ck.lt (M.has 0 rfl) g2 rfl).2
  have hz9 := M.bel.size
  refine sct A (ef rfl rfl) (qac tk21 (Dt.keep M.bel _ rtk21_) (hW.bk _ (List.mem_of_getElem? (xg ir16)) _ (List.mem_map.2 ⟨_, mtk21, rfl⟩))) ?_
  rintro _ w22 ⟨d2, rfl, ⟨hd2, ha2, ht2⟩, hbd⟩
  replace M := M.call hbd
  refine ⟨_, rfl, ?_⟩
  intro a A
  refine qxd (L' := (.obj g2 (.cells (d2.d.cells d2.ts.length).toArray 42) :: [])) A M rfl rfl (za rfl rfl rfl (by kernel_rfl) M 0 rfl rfl rfl) 0 rfl rfl rfl ?_
  intro w23 M hK24
  replace hd2 := Dt.kept hK24 _ hd2 (Dt.at_mono (fun b9 hb9 => by rintro rfl; omega) _ ha2)
  refine sda A λa A↦?_
  refine qa (hK12 _ _ (wp_ret (hret _ _ (en2 A rfl (zu M xz rfl 0 rfl (cs := [iV d2.d.k, iV d2.d.n, bV d2.d.y.q.b1, .slice d2.d.y.o1 d2.d.y.q.t1.length d2.d.y.c1, .slice d2.d.y.o2 d2.d.y.q.q1.length d2.d.y.c2, bV d2.d.y.q.b2, .slice d2.d.y.o3 d2.d.y.q.t2.length d2.d.y.c3, .slice d2.d.y.o4 d2.d.y.q.q2.length d2.d.y.c4, .string d2.d.s, .slice d2.d.ro d2.d.rl.length d2.d.rc, .slice d2.d.lo d2.ts.length d2.d.lc]) rfl rfl) (qf rfl) ?_))))
  exact ⟨d2, by first | (rw [show (plS (ts.map Ty.k) (rs.map Rk.k) r t i).2 = 0 by omega]; done) | (rw [show (plS (ts.map Ty.k) (rs.map Rk.k) r t i).2 = 0 by omega]; rfl), ⟨hd2, by rw [ht2, zpe (show (plS (ts.map Ty.k) (rs.map Rk.k) r t i).2 = 0 by omega) hx9 (show (List.map Dt.tr _)[_]? = some tk21.tr by rw [List.getElem?_map, itk21]; rfl)], Dt.at_mono (fun b9 hb9 => Nat.le_trans hz9 hb9) _ ha2⟩, M.bel⟩
open Classical in
/-- What was made, but these pieces. -/
noncomputable def others (w0 w : World) (L : List Ck) : List Ck := (froz w w0.heap.size (w.heap.size - w0.heap.size)).filter fun c => decide (∀ d ∈ L, ∀ b, c.at_ = some b → d.at_ ≠ some b)
theorem qad {w0 w : World} {L : List Ck} : jd (others w0 w L) := fun c hc => qxh c (List.mem_filter.1 hc).1
theorem Mg.fill {w0 w : World} {L : List Ck} (hM : Mg w0 w L) (hnb : jd L) : Mg w0 w (others w0 w L ++ L) := by
  refine ⟨hM.bel, fun c hc => ?_, List.pairwise_append.2 ⟨(qcg _ _).filter _, hM.dis, fun c hc d hd => ?_⟩⟩
  · rcases List.mem_append.1 hc with h | h
    · obtain ⟨b, o, rfl, h3, h4⟩ := ku (List.mem_filter.1 h).1
      exact ⟨h3, h4⟩
    · exact hM.all c h
  · have h5 := of_decide_eq_true (List.mem_filter.1 hc).2
    obtain ⟨b, o, rfl, h3, h4⟩ := ku (List.mem_filter.1 hc).1
    have h6 := h5 d hd b rfl
    cases d with
    | obj g' o' => exact fun e => h6 (by rw [e]; rfl)
    | row e' sz' v' n' xs' => exact h6
    | bld b' bs' => exact absurd rfl (hnb _ hd b' bs')
theorem qgh {w w' : World} {L : List Ck} {t : Dt} (ht : t.rd w') (ha : t.at_ fun b => w.heap.size ≤ b ∧ ∀ d ∈ L, d.at_ ≠ some b) : Lives (others w w' L) t := fun w1 w2 h9 => by
  refine Dt.seen (p := fun b => w.heap.size ≤ b ∧ ∀ d ∈ L, d.at_ ≠ some b) (fun b i v hb hc => ?_) t ht ha
  have hlt := cell_lt hc
  have h2 : w'.heap[b]? = some (w'.heap[b]'hlt) := Array.getElem?_eq_getElem hlt
  have h3 : Ck.obj b (w'.heap[b]'hlt) ∈ others w w' L := List.mem_filter.2 ⟨qma hb.1 (by have := hb.1; simp only at *; omega) h2, decide_eq_true fun d hd b' e => by cases e; exact hb.2 d hd⟩
  have h4 := (h9.all _ h3).2
  unfold World.cell? at hc ⊢
  simp only at hc ⊢
  rw [h4, ← h2]; exact hc
/-- A row of data that a call has made, and what they stand by. -/
theorem Mg.data {w0 w w' : World} {L : List Ck} {c : Ck} (hM : Mg w0 w L) (n : Nat) (hnb : jd L) (h : Mg w w' [c]) (hc : jd [c]) : Mg w0 w' (c :: (L.take n ++ (others w w' [c] ++ L.drop n))) := by
  have h1 := hM.both (h.fill hc) hnb (jz qad hc)
  refine h1.perm ?_
  rw [List.append_assoc]
  refine List.perm_append_comm.trans ?_
  show (c :: (L ++ others w w' [c])).Perm _
  refine List.Perm.cons _ ?_
  have e : L ++ others w w' [c] = L.take n ++ (L.drop n ++ others w w' [c]) := by rw [← List.append_assoc, List.take_append_drop]
  rw [e]
  exact List.Perm.append_left _ List.perm_append_comm
section
variable {P : Program} {w0 w : World} {L : List Ck} {l : List (Nat × Value)} {dst : Option Tmp} {ty : TypeId} {pos : String} {after : Array Edge} {guard : Option (Nat × Bool)} {v : Value}
/-- A cell of a struct in a row of one's own. -/
theorem qgi {α : Type} {f : α → List Value} {m : Nat} (hf : ∀ x, (f x).length = m) (hm : 0 < m) (hM : Mg w0 w L) (k : Nat) {e : TypeId} {n ca b o i j o' : Nat} {so : Option Addr} {xs : List α} {x : α} (hk : L[k]? = some (.row e m (.slice so n ca) n (qt f xs))) (hi : xs[i]? = some x) (hso : so = some ⟨b, o, none⟩) (hj : (f x)[j]? = some v) {t : TypeId} (ht : Is1 P t) {y : Operand} (hy : ev l y = some (.pointer (some ⟨b, o', none⟩))) (ho : o' = o + i * m + j) : Does P l ⟨dst, .load t y, ty, pos, after, guard⟩ w v w := by
  obtain ⟨b', o'', e1, h1⟩ := uq hf hm (rc_own (hM.has k hk)) hi
  rw [hso] at e1
  cases e1
  subst ho
  exact jn hy (jy ht (h1.2 j v hj))
end
set_option maxHeartbeats 2000000 in
theorem zpi {w0 w : World} {b tc rc : Nat} {tz ro : Option Addr} {ts : List Ty} {rs : List Rk} {Y : List Ck} (hY : jd Y) (hW : WS (ts.map Ty.k) (rs.map Rk.k)) (hsr : ∀ w1, Mg w0 w1 (.obj b (.cells (sC tz tc ts ro rc rs).toArray 73) :: .row 33 7 (.slice tz ts.length tc) ts.length (qt Ty.c ts) :: .row 86 2 (.slice ro rs.length rc) rs.length (qt Rk.c rs) :: Y) → SR w1 b tz tc ts ro rc rs) (hM0 : Mg w0 w (.obj b (.cells (sC tz tc ts ro rc rs).toArray 73) :: .row 33 7 (.slice tz ts.length tc) ts.length (qt Ty.c ts) :: .row 86 2 (.slice ro rs.length rc) rs.length (qt Rk.c rs) :: Y)) {u : Ty} (hU : ∀ w1, Mg w0 w1 Y → TyR w1 u) (hul : u.fs.length ≤ 2000000) (hum : u.ms.length ≤ 2000000) (hz1 : u.nm.size ≤ 281474976710656) (hz2 : u.ui.size ≤ 281474976710656) (huz : ∀ s ∈ u.fs, s.size ≤ 281474976710656) (hg : gdB ts.length u.k = true) (h0 : ¬ 0 ≤ uix (ts.map Ty.k) u.ui) (hsl : slP (ts.map Ty.k) u.par = false) (hc : cnt (ts.map Ty.k) u.par + u.fs.length ≤ 16) (hn : ts.length < 4096) : Calls Tryz.prog 8 #[pA b 0, .agg u.c.toArray] w fun e w' => ∃ (t2 : Ty) (tz' : Option Addr) (tc' : Nat), e = .returned (.tuple #[iV ((ts.length : Nat) : Int), iV 0]) ∧ t2.k = u.k ∧ Mg w0 w' (.obj b (.cells #[.slice tz' ((ts ++ [t2]).length) tc', .slice ro rs.length rc] 73) :: .row 33 7 (.slice tz' ((ts ++ [t2]).length) tc') ((ts ++ [t2]).length) (qt Ty.c (ts ++ [t2])) :: .row 86 2 (.slice ro rs.length rc) rs.length (qt Rk.c rs) :: .row 9 1 (.slice t2.fo t2.fs.length t2.fc) t2.fs.length (E.strC t2.fs) :: .row 4 1 (.slice t2.mo t2.ms.length t2.mc) t2.ms.length (E.boolC t2.ms) :: Y) := by
 have hkl := hW.kl
 have hrl := hW.rl
 rw [List.length_map] at hkl hrl
 obtain ⟨hg1, hg2, hg3, hg4⟩ := zoc hg
 rw [show u.k.par = u.par from rfl] at hg3 hg4
 have M : Mg w0 w (.obj b (.cells (sC tz tc ts ro rc rs).toArray 73) :: .row 33 7 (.slice tz ts.length tc) ts.length (qt Ty.c ts) :: .row 86 2 (.slice ro rs.length rc) rs.length (qt Rk.c rs) :: Y) := hM0
 refine qs (l := [(0, pA b 0), (1, .agg u.c.toArray)]) Tryz.func8 rfl Tryz.ntmps8 rfl rfl ?_
 intro Q hret hnorm hP a A
 refine wsk fun K1 hK1 => wrl (zy (vs := u.c) (t := 33) A M rfl rfl rfl pg (zf rfl rfl) (by decide) ?_)
 intro g2 w3 M a A
 iterate 2 refine sda A λa A↦?_
 refine qa (hK1 _ _ (wsk fun K4 hK4 => wsk fun K5 hK5 => wrl (sdm A λa A↦?_)))
 refine sdo (v := bV false) A (qg rfl rfl (fun w => by kernel_rfl)) λa A↦?_
 iterate 2 refine sdm A λa A↦?_
 refine sdo A (qz M qaj rfl 0 rfl (cs := u.c) rfl rfl) λa A↦?_
 refine gcl A M (ef rfl rfl) (qig (hsr _ ((M.dropn 1))) hW (hU _ (M.dropn 4)) hul huz hg) fun w7 hb6 M a A => ?_
 refine sdo (v := bV false) A (zi rfl zm) λa A↦?_
 refine sdk (v := bV false) A λa A↦?_
 refine qa (hK5 _ _ (wp_cond_false (A.ev rfl) ?_))
 refine wp_skip (hK4 _ _ (wsk fun K8 hK8 => wsk fun K9 hK9 => wrl (sdm A λa A↦?_)))
 refine sdo (v := pA g2 6) A (qb yu rfl rfl) λa A↦?_
 refine sdo A (qh M o99 rfl 0 rfl rfl) λa A↦?_
 refine gcl A M (ef rfl rfl) (qja (hsr _ ((M.dropn 1))) hW) fun w11 hb10 M a A => ?_
 refine sda A λa A↦?_
 refine qa (hK9 _ _ (wsk fun K12 hK12 => wrl (sdm A λa A↦?_)))
 refine sdo (v := bV false) A (qg rfl rfl (fun w => (zl w).trans (by rw [show (decide (0 ≤ uix (ts.map Ty.k) u.ui)) = false from (decide_eq_false h0)]))) λa A↦?_
 refine qa (hK12 _ _ (wp_cond_false (A.ev rfl) ?_))
 refine wp_skip (hK8 _ _ (wsk fun K13 hK13 => ?_))
 have hJ14 : ∀ a w1, (Sl a 77 [(0, pA b 0), (1, .agg u.c.toArray), (3, pA g2 0), (6, iV (uix (ts.map Ty.k) u.ui)), (7, pA b 0), (8, bV false), (9, bV false), (10, pA b 0), (11, .agg u.c.toArray), (12, bV true), (13, bV false), (14, bV false), (15, pA b 0), (16, pA g2 6), (17, .string u.ui), (18, iV (uix (ts.map Ty.k) u.ui)), (19, iV (uix (ts.map Ty.k) u.ui)), (20, bV false)] ∧ Mg w0 w1 (.obj g2 (.cells u.c.toArray 33) :: .obj b (.cells (sC tz tc ts ro rc rs).toArray 73) :: .row 33 7 (.slice tz ts.length tc) ts.length (qt Ty.c ts) :: .row 86 2 (.slice ro rs.length rc) rs.length (qt Rk.c rs) :: Y)) → K13 a w1 := by
  clear A M
  rintro a w15 ⟨A, M⟩
  refine hK13 _ _ (wsk fun K17 hK17 => zp (S := fun w1 => Mg w0 w1 (.obj g2 (.cells u.c.toArray 33) :: [])) (by kernel_rfl) ?_)
  replace M := M.drew
  refine qe A 0 rfl rfl rfl rfl hP (M.sub (cc (cn (cn (cn ns))))) (λ_ M↦ql rfl) λa A↦?_
  refine qe A 1 rfl rfl rfl rfl hP (M.sub (cc (cn (cn (cn ns))))) (λ_ M↦ql rfl) λa A↦?_
  refine qe A 2 rfl rfl rfl rfl hP (M.sub (cc (cn (cn (cn ns))))) (λ_ M↦zh rfl) λa A↦?_
  refine qe (v := pA b 0) A 3 rfl rfl rfl rfl hP (M.sub (cc (cn (cn (cn ns))))) (λ_ M↦qb jw rfl rfl) λa A↦?_
  refine qe A 5 rfl rfl rfl rfl hP (M.sub (cc (cn (cn (cn ns))))) (λ_ M↦qz M qaj rfl 0 rfl (cs := u.c) rfl rfl) λa A↦?_
  refine qba (rs := [4, 6]) (by kernel_rfl) (by simp) ⟨?_, ?_, trivial⟩
  ·
   refine qfa A 4 rfl rfl rfl rfl (qh M xn rfl 1 rfl rfl) (M.sub (cc (cn (cn (cn ns))))) λa A↦?_
   refine zd (by kernel_rfl) (jf A 6 rfl rfl rfl rfl (zj rfl rfl (fun w => by kernel_rfl)) (ug (hU _ (M.dropn 4)) hul hum hz1 hz2 huz) ?_)
   rintro _ w19 ⟨t2, rfl, hk2, hM18⟩
   replace M : Mg w0 w19 (.row 9 1 (.slice t2.fo t2.fs.length t2.fc) t2.fs.length (E.strC t2.fs) :: .row 4 1 (.slice t2.mo t2.ms.length t2.mc) t2.ms.length (E.boolC t2.ms) :: .obj g2 (.cells u.c.toArray 33) :: .obj b (.cells (sC tz tc ts ro rc rs).toArray 73) :: .row 33 7 (.slice tz ts.length tc) ts.length (qt Ty.c ts) :: .row 86 2 (.slice ro rs.length rc) rs.length (qt Rk.c rs) :: Y) := (M.both hM18 (qi (by simp) (qi (by simp) (qi (by simp) (qi (by simp) hY)))) (qi (by simp) (qi (by simp) (qk qm))))
   refine ⟨_, rfl, (M.sub (cn (cn (cc (cn (cn (cn ns))))))), ?_⟩
   intro a A
   refine zd (by kernel_rfl) (qrb (e := 33) (sz := 7) (m := 1) (vs := qt Ty.c [t2]) A M 7 rfl rfl rfl rfl (qy rfl (by kernel_rfl)) rfl rfl (.inl (by decide)) ?_)
   intro g20 w21 M
   refine ⟨(M.sub (cn (cn (cn (cc (cn (cn (cn ns)))))))), ?_⟩
   intro a A
   refine zd (by kernel_rfl) (uk (e := 33) (sz := 7) (k := 5) (q := ts.length) (m := 1) (xs := qt Ty.c ts) (news := qt Ty.c [t2]) (L' := fun v22 => (.row 33 7 (.slice (aO g20) 1 1) 1 (qt Ty.c [t2]) :: .row 9 1 (.slice t2.fo t2.fs.length t2.fc) t2.fs.length (E.strC t2.fs) :: .row 4 1 (.slice t2.mo t2.ms.length t2.mc) t2.ms.length (E.boolC t2.ms) :: .obj g2 (.cells u.c.toArray 33) :: .obj b (.cells (sC tz tc ts ro rc rs).toArray 73) :: .row 33 7 (v22) (ts.length + 1) (qt Ty.c ts ++ qt Ty.c [t2]) :: .row 86 2 (.slice ro rs.length rc) rs.length (qt Rk.c rs) :: Y)) A 8 rfl rfl rfl rfl (xb (z := .agg #[.string (⟨#[]⟩), iV 0, .slice none 0 0, .slice none 0 0, bV false, bV false, .string (⟨#[]⟩)]) (sz := 7) (by_ := 96) Tryz.underlying26 (by kernel_rfl) rfl rfl rfl M 5 rfl rfl rfl rfl (rc_own (M.has 0 rfl)) (qme _) (by omega)) (fun _ => rfl) ?_)
   intro v22 w23 M
   replace M : Mg w0 w23 (.row 33 7 (.slice (aO g20) 1 1) 1 (qt Ty.c [t2]) :: .row 9 1 (.slice t2.fo t2.fs.length t2.fc) t2.fs.length (E.strC t2.fs) :: .row 4 1 (.slice t2.mo t2.ms.length t2.mc) t2.ms.length (E.boolC t2.ms) :: .obj g2 (.cells u.c.toArray 33) :: .obj b (.cells (sC tz tc ts ro rc rs).toArray 73) :: .row 33 7 (v22) ((ts ++ [t2]).length) (qt Ty.c (ts ++ [t2])) :: .row 86 2 (.slice ro rs.length rc) rs.length (qt Rk.c rs) :: Y) := by
    have h9 := M
    rw [← jx] at h9
    rw [List.length_append]
    exact h9
   obtain ⟨so24, ca25, rfl⟩ := jg (M.has 5 rfl)
   have hln : (ts ++ [t2]).length = ts.length + 1 := by rw [List.length_append]; rfl
   refine ⟨(M.sub (cn (cn (cn (cc (cn (cn (cn ns)))))))), ?_⟩
   intro a A
   refine qe A 9 rfl rfl rfl rfl hP (M.sub (cn (cn (cn (cc (cn (cn (cn ns)))))))) (λ_ M↦zh rfl) λa A↦?_
   refine qe (v := pA b 0) A 10 rfl rfl rfl rfl hP (M.sub (cn (cn (cn (cc (cn (cn (cn ns)))))))) (λ_ M↦qb jw rfl rfl) λa A↦?_
   refine zd (by kernel_rfl) (jm (L' := (.row 33 7 (.slice (aO g20) 1 1) 1 (qt Ty.c [t2]) :: .row 9 1 (.slice t2.fo t2.fs.length t2.fc) t2.fs.length (E.strC t2.fs) :: .row 4 1 (.slice t2.mo t2.ms.length t2.mc) t2.ms.length (E.boolC t2.ms) :: .obj g2 (.cells u.c.toArray 33) :: .obj b (.cells #[.slice so24 ((ts ++ [t2]).length) ca25, .slice ro rs.length rc] 73) :: .row 33 7 (.slice so24 ((ts ++ [t2]).length) ca25) ((ts ++ [t2]).length) (qt Ty.c (ts ++ [t2])) :: .row 86 2 (.slice ro rs.length rc) rs.length (qt Rk.c rs) :: Y)) A M 11 rfl rfl rfl (za rfl rfl rfl (by kernel_rfl) M 4 rfl rfl rfl) 4 rfl rfl rfl ?_)
   intro w26 M
   refine ⟨(M.sub (cn (cn (cn (cc (cn (cn (cn ns)))))))), ?_⟩
   refine ze (by kernel_rfl) ?_
   refine hK17 _ _ (wsk fun K27 hK27 => wrl (sdm A λa A↦?_))
   refine sdo A (zh rfl) λa A↦?_
   refine sdo (v := pA b 0) A (qb jw rfl rfl) λa A↦?_
   refine sdo A (qh M xn rfl 4 rfl rfl) λa A↦?_
   refine sdo A (qn Tryz.underlying26 rfl) λa A↦?_
   refine sdo (v := iV ((((ts ++ [t2]).length - 1 : Nat) : Int))) A (qg rfl rfl (fun w => (kn (ji (by omega) (by omega)) w).trans (by rw [show ((((ts ++ [t2]).length : Nat) : Int) - 1 : Int) = (((ts ++ [t2]).length - 1 : Nat) : Int) from by omega]))) λa A↦?_
   iterate 2 refine sda A λa A↦?_
   refine qa (hK27 _ _ (wp_ret (hret _ _ (en2 A rfl (qf rfl) (qf rfl) ?_))))
   replace M : Mg w0 w26 (.obj b (.cells #[.slice so24 ((ts ++ [t2]).length) ca25, .slice ro rs.length rc] 73) :: .row 33 7 (.slice so24 ((ts ++ [t2]).length) ca25) ((ts ++ [t2]).length) (qt Ty.c (ts ++ [t2])) :: .row 86 2 (.slice ro rs.length rc) rs.length (qt Rk.c rs) :: .row 9 1 (.slice t2.fo t2.fs.length t2.fc) t2.fs.length (E.strC t2.fs) :: .row 4 1 (.slice t2.mo t2.ms.length t2.mc) t2.ms.length (E.boolC t2.ms) :: Y) := (((((M.bring 2 rfl rfl).bring 2 rfl rfl).bring 6 rfl rfl).bring 6 rfl rfl).bring 6 rfl rfl).sub (cc (cc (cc (cc (cc (cn (cn (.refl _))))))))
   exact ⟨t2, so24, ca25, by rw [show (ts ++ [t2]).length - 1 = ts.length by omega], hk2, M⟩
  ·
   refine jf A 6 rfl rfl rfl rfl (zj rfl rfl (fun w => by kernel_rfl)) (ug (hU _ (M.dropn 4)) hul hum hz1 hz2 huz) ?_
   rintro _ w29 ⟨t2, rfl, hk2, hM28⟩
   replace M : Mg w0 w29 (.row 9 1 (.slice t2.fo t2.fs.length t2.fc) t2.fs.length (E.strC t2.fs) :: .row 4 1 (.slice t2.mo t2.ms.length t2.mc) t2.ms.length (E.boolC t2.ms) :: .obj g2 (.cells u.c.toArray 33) :: .obj b (.cells (sC tz tc ts ro rc rs).toArray 73) :: .row 33 7 (.slice tz ts.length tc) ts.length (qt Ty.c ts) :: .row 86 2 (.slice ro rs.length rc) rs.length (qt Rk.c rs) :: Y) := (M.both hM28 (qi (by simp) (qi (by simp) (qi (by simp) (qi (by simp) hY)))) (qi (by simp) (qi (by simp) (qk qm))))
   refine ⟨_, rfl, (M.sub (cn (cn (cc (cn (cn (cn ns))))))), ?_⟩
   intro a A
   refine qba (rs := [4, 7]) (by kernel_rfl) (by simp) ⟨?_, ?_, trivial⟩
   ·
    refine qfa A 4 rfl rfl rfl rfl (qh M xn rfl 3 rfl rfl) (M.sub (cn (cn (cc (cn (cn (cn ns))))))) λa A↦?_
    refine zd (by kernel_rfl) (qrb (e := 33) (sz := 7) (m := 1) (vs := qt Ty.c [t2]) A M 7 rfl rfl rfl rfl (qy rfl (by kernel_rfl)) rfl rfl (.inl (by decide)) ?_)
    intro g30 w31 M
    refine ⟨(M.sub (cn (cn (cn (cc (cn (cn (cn ns)))))))), ?_⟩
    intro a A
    refine zd (by kernel_rfl) (uk (e := 33) (sz := 7) (k := 5) (q := ts.length) (m := 1) (xs := qt Ty.c ts) (news := qt Ty.c [t2]) (L' := fun v32 => (.row 33 7 (.slice (aO g30) 1 1) 1 (qt Ty.c [t2]) :: .row 9 1 (.slice t2.fo t2.fs.length t2.fc) t2.fs.length (E.strC t2.fs) :: .row 4 1 (.slice t2.mo t2.ms.length t2.mc) t2.ms.length (E.boolC t2.ms) :: .obj g2 (.cells u.c.toArray 33) :: .obj b (.cells (sC tz tc ts ro rc rs).toArray 73) :: .row 33 7 (v32) (ts.length + 1) (qt Ty.c ts ++ qt Ty.c [t2]) :: .row 86 2 (.slice ro rs.length rc) rs.length (qt Rk.c rs) :: Y)) A 8 rfl rfl rfl rfl (xb (z := .agg #[.string (⟨#[]⟩), iV 0, .slice none 0 0, .slice none 0 0, bV false, bV false, .string (⟨#[]⟩)]) (sz := 7) (by_ := 96) Tryz.underlying26 (by kernel_rfl) rfl rfl rfl M 5 rfl rfl rfl rfl (rc_own (M.has 0 rfl)) (qme _) (by omega)) (fun _ => rfl) ?_)
    intro v32 w33 M
    replace M : Mg w0 w33 (.row 33 7 (.slice (aO g30) 1 1) 1 (qt Ty.c [t2]) :: .row 9 1 (.slice t2.fo t2.fs.length t2.fc) t2.fs.length (E.strC t2.fs) :: .row 4 1 (.slice t2.mo t2.ms.length t2.mc) t2.ms.length (E.boolC t2.ms) :: .obj g2 (.cells u.c.toArray 33) :: .obj b (.cells (sC tz tc ts ro rc rs).toArray 73) :: .row 33 7 (v32) ((ts ++ [t2]).length) (qt Ty.c (ts ++ [t2])) :: .row 86 2 (.slice ro rs.length rc) rs.length (qt Rk.c rs) :: Y) := by
     have h9 := M
     rw [← jx] at h9
     rw [List.length_append]
     exact h9
    obtain ⟨so34, ca35, rfl⟩ := jg (M.has 5 rfl)
    have hln : (ts ++ [t2]).length = ts.length + 1 := by rw [List.length_append]; rfl
    refine ⟨(M.sub (cn (cn (cn (cc (cn (cn (cn ns)))))))), ?_⟩
    intro a A
    refine qe A 9 rfl rfl rfl rfl hP (M.sub (cn (cn (cn (cc (cn (cn (cn ns)))))))) (λ_ M↦zh rfl) λa A↦?_
    refine qe (v := pA b 0) A 10 rfl rfl rfl rfl hP (M.sub (cn (cn (cn (cc (cn (cn (cn ns)))))))) (λ_ M↦qb jw rfl rfl) λa A↦?_
    refine zd (by kernel_rfl) (jm (L' := (.row 33 7 (.slice (aO g30) 1 1) 1 (qt Ty.c [t2]) :: .row 9 1 (.slice t2.fo t2.fs.length t2.fc) t2.fs.length (E.strC t2.fs) :: .row 4 1 (.slice t2.mo t2.ms.length t2.mc) t2.ms.length (E.boolC t2.ms) :: .obj g2 (.cells u.c.toArray 33) :: .obj b (.cells #[.slice so34 ((ts ++ [t2]).length) ca35, .slice ro rs.length rc] 73) :: .row 33 7 (.slice so34 ((ts ++ [t2]).length) ca35) ((ts ++ [t2]).length) (qt Ty.c (ts ++ [t2])) :: .row 86 2 (.slice ro rs.length rc) rs.length (qt Rk.c rs) :: Y)) A M 11 rfl rfl rfl (za rfl rfl rfl (by kernel_rfl) M 4 rfl rfl rfl) 4 rfl rfl rfl ?_)
    intro w36 M
    refine ⟨(M.sub (cn (cn (cn (cc (cn (cn (cn ns)))))))), ?_⟩
    refine ze (by kernel_rfl) ?_
    refine hK17 _ _ (wsk fun K37 hK37 => wrl (sdm A λa A↦?_))
    refine sdo A (zh rfl) λa A↦?_
    refine sdo (v := pA b 0) A (qb jw rfl rfl) λa A↦?_
    refine sdo A (qh M xn rfl 4 rfl rfl) λa A↦?_
    refine sdo A (qn Tryz.underlying26 rfl) λa A↦?_
    refine sdo (v := iV ((((ts ++ [t2]).length - 1 : Nat) : Int))) A (qg rfl rfl (fun w => (kn (ji (by omega) (by omega)) w).trans (by rw [show ((((ts ++ [t2]).length : Nat) : Int) - 1 : Int) = (((ts ++ [t2]).length - 1 : Nat) : Int) from by omega]))) λa A↦?_
    iterate 2 refine sda A λa A↦?_
    refine qa (hK37 _ _ (wp_ret (hret _ _ (en2 A rfl (qf rfl) (qf rfl) ?_))))
    replace M : Mg w0 w36 (.obj b (.cells #[.slice so34 ((ts ++ [t2]).length) ca35, .slice ro rs.length rc] 73) :: .row 33 7 (.slice so34 ((ts ++ [t2]).length) ca35) ((ts ++ [t2]).length) (qt Ty.c (ts ++ [t2])) :: .row 86 2 (.slice ro rs.length rc) rs.length (qt Rk.c rs) :: .row 9 1 (.slice t2.fo t2.fs.length t2.fc) t2.fs.length (E.strC t2.fs) :: .row 4 1 (.slice t2.mo t2.ms.length t2.mc) t2.ms.length (E.boolC t2.ms) :: Y) := (((((M.bring 2 rfl rfl).bring 2 rfl rfl).bring 6 rfl rfl).bring 6 rfl rfl).bring 6 rfl rfl).sub (cc (cc (cc (cc (cc (cn (cn (.refl _))))))))
    exact ⟨t2, so34, ca35, by rw [show (ts ++ [t2]).length - 1 = ts.length by omega], hk2, M⟩
   ·
    refine qrb (e := 33) (sz := 7) (m := 1) (vs := qt Ty.c [t2]) A M 7 rfl rfl rfl rfl (qy rfl (by kernel_rfl)) rfl rfl (.inl (by decide)) ?_
    intro g38 w39 M
    refine ⟨(M.sub (cn (cn (cn (cc (cn (cn (cn ns)))))))), ?_⟩
    intro a A
    refine zd (by kernel_rfl) (qfa A 4 rfl rfl rfl rfl (qh M xn rfl 4 rfl rfl) (M.sub (cn (cn (cn (cc (cn (cn (cn ns)))))))) ?_)
    intro a A
    refine zd (by kernel_rfl) (uk (e := 33) (sz := 7) (k := 5) (q := ts.length) (m := 1) (xs := qt Ty.c ts) (news := qt Ty.c [t2]) (L' := fun v40 => (.row 33 7 (.slice (aO g38) 1 1) 1 (qt Ty.c [t2]) :: .row 9 1 (.slice t2.fo t2.fs.length t2.fc) t2.fs.length (E.strC t2.fs) :: .row 4 1 (.slice t2.mo t2.ms.length t2.mc) t2.ms.length (E.boolC t2.ms) :: .obj g2 (.cells u.c.toArray 33) :: .obj b (.cells (sC tz tc ts ro rc rs).toArray 73) :: .row 33 7 (v40) (ts.length + 1) (qt Ty.c ts ++ qt Ty.c [t2]) :: .row 86 2 (.slice ro rs.length rc) rs.length (qt Rk.c rs) :: Y)) A 8 rfl rfl rfl rfl (xb (z := .agg #[.string (⟨#[]⟩), iV 0, .slice none 0 0, .slice none 0 0, bV false, bV false, .string (⟨#[]⟩)]) (sz := 7) (by_ := 96) Tryz.underlying26 (by kernel_rfl) rfl rfl rfl M 5 rfl rfl rfl rfl (rc_own (M.has 0 rfl)) (qme _) (by omega)) (fun _ => rfl) ?_)
    intro v40 w41 M
    replace M : Mg w0 w41 (.row 33 7 (.slice (aO g38) 1 1) 1 (qt Ty.c [t2]) :: .row 9 1 (.slice t2.fo t2.fs.length t2.fc) t2.fs.length (E.strC t2.fs) :: .row 4 1 (.slice t2.mo t2.ms.length t2.mc) t2.ms.length (E.boolC t2.ms) :: .obj g2 (.cells u.c.toArray 33) :: .obj b (.cells (sC tz tc ts ro rc rs).toArray 73) :: .row 33 7 (v40) ((ts ++ [t2]).length) (qt Ty.c (ts ++ [t2])) :: .row 86 2 (.slice ro rs.length rc) rs.length (qt Rk.c rs) :: Y) := by
     have h9 := M
     rw [← jx] at h9
     rw [List.length_append]
     exact h9
    obtain ⟨so42, ca43, rfl⟩ := jg (M.has 5 rfl)
    have hln : (ts ++ [t2]).length = ts.length + 1 := by rw [List.length_append]; rfl
    refine ⟨(M.sub (cn (cn (cn (cc (cn (cn (cn ns)))))))), ?_⟩
    intro a A
    refine qe A 9 rfl rfl rfl rfl hP (M.sub (cn (cn (cn (cc (cn (cn (cn ns)))))))) (λ_ M↦zh rfl) λa A↦?_
    refine qe (v := pA b 0) A 10 rfl rfl rfl rfl hP (M.sub (cn (cn (cn (cc (cn (cn (cn ns)))))))) (λ_ M↦qb jw rfl rfl) λa A↦?_
    refine zd (by kernel_rfl) (jm (L' := (.row 33 7 (.slice (aO g38) 1 1) 1 (qt Ty.c [t2]) :: .row 9 1 (.slice t2.fo t2.fs.length t2.fc) t2.fs.length (E.strC t2.fs) :: .row 4 1 (.slice t2.mo t2.ms.length t2.mc) t2.ms.length (E.boolC t2.ms) :: .obj g2 (.cells u.c.toArray 33) :: .obj b (.cells #[.slice so42 ((ts ++ [t2]).length) ca43, .slice ro rs.length rc] 73) :: .row 33 7 (.slice so42 ((ts ++ [t2]).length) ca43) ((ts ++ [t2]).length) (qt Ty.c (ts ++ [t2])) :: .row 86 2 (.slice ro rs.length rc) rs.length (qt Rk.c rs) :: Y)) A M 11 rfl rfl rfl (za rfl rfl rfl (by kernel_rfl) M 4 rfl rfl rfl) 4 rfl rfl rfl ?_)
    intro w44 M
    refine ⟨(M.sub (cn (cn (cn (cc (cn (cn (cn ns)))))))), ?_⟩
    refine ze (by kernel_rfl) ?_
    refine hK17 _ _ (wsk fun K45 hK45 => wrl (sdm A λa A↦?_))
    refine sdo A (zh rfl) λa A↦?_
    refine sdo (v := pA b 0) A (qb jw rfl rfl) λa A↦?_
    refine sdo A (qh M xn rfl 4 rfl rfl) λa A↦?_
    refine sdo A (qn Tryz.underlying26 rfl) λa A↦?_
    refine sdo (v := iV ((((ts ++ [t2]).length - 1 : Nat) : Int))) A (qg rfl rfl (fun w => (kn (ji (by omega) (by omega)) w).trans (by rw [show ((((ts ++ [t2]).length : Nat) : Int) - 1 : Int) = (((ts ++ [t2]).length - 1 : Nat) : Int) from by omega]))) λa A↦?_
    iterate 2 refine sda A λa A↦?_
    refine qa (hK45 _ _ (wp_ret (hret _ _ (en2 A rfl (qf rfl) (qf rfl) ?_))))
    replace M : Mg w0 w44 (.obj b (.cells #[.slice so42 ((ts ++ [t2]).length) ca43, .slice ro rs.length rc] 73) :: .row 33 7 (.slice so42 ((ts ++ [t2]).length) ca43) ((ts ++ [t2]).length) (qt Ty.c (ts ++ [t2])) :: .row 86 2 (.slice ro rs.length rc) rs.length (qt Rk.c rs) :: .row 9 1 (.slice t2.fo t2.fs.length t2.fc) t2.fs.length (E.strC t2.fs) :: .row 4 1 (.slice t2.mo t2.ms.length t2.mc) t2.ms.length (E.boolC t2.ms) :: Y) := (((((M.bring 2 rfl rfl).bring 2 rfl rfl).bring 6 rfl rfl).bring 6 rfl rfl).bring 6 rfl rfl).sub (cc (cc (cc (cc (cc (cn (cn (.refl _))))))))
    exact ⟨t2, so42, ca43, by rw [show (ts ++ [t2]).length - 1 = ts.length by omega], hk2, M⟩
 refine wp_block (wsk fun K46 hK46 => zp (S := fun w1 => Mg w0 w1 (.obj g2 (.cells u.c.toArray 33) :: .obj b (.cells (sC tz tc ts ro rc rs).toArray 73) :: .row 33 7 (.slice tz ts.length tc) ts.length (qt Ty.c ts) :: [])) (by kernel_rfl) ?_)
 replace M := M.drew
 refine qe (v := pA g2 1) A 0 rfl rfl rfl rfl hP (M.sub (cc (cc (cc (cn ns))))) (λ_ M↦qb ju rfl rfl) λa A↦?_
 refine qe A 1 rfl rfl rfl rfl hP (M.sub (cc (cc (cc (cn ns))))) (λ_ M↦qh M o93 rfl 0 rfl rfl) λa A↦?_
 rcases tf ((u.par != -1)) with hb47 | hb47
 ·
  have hb47' := bne_iff_ne.1 hb47
  refine qe (v := bV true) A 2 rfl rfl rfl rfl hP (M.sub (cc (cc (cc (cn ns))))) (λ_ M↦qg rfl rfl (fun w => (zg w).trans (by rw [hb47]))) λa A↦?_
  refine qe A 3 rfl rfl rfl rfl hP (M.sub (cc (cc (cc (cn ns))))) (λ_ M↦ql rfl) λa A↦?_
  refine qe A 4 rfl rfl rfl rfl hP (M.sub (cc (cc (cc (cn ns))))) (λ_ M↦ql rfl) λa A↦?_
  refine qe A 5 rfl rfl rfl rfl hP (M.sub (cc (cc (cc (cn ns))))) (λ_ M↦zh rfl) λa A↦?_
  refine qe (v := pA b 0) A 6 rfl rfl rfl rfl hP (M.sub (cc (cc (cc (cn ns))))) (λ_ M↦qb jw rfl rfl) λa A↦?_
  refine qe A 7 rfl rfl rfl rfl hP (M.sub (cc (cc (cc (cn ns))))) (λ_ M↦qh M xn rfl 1 rfl rfl) λa A↦?_
  refine qe (v := pA g2 1) A 8 rfl rfl rfl rfl hP (M.sub (cc (cc (cc (cn ns))))) (λ_ M↦qb ju rfl rfl) λa A↦?_
  refine qe A 9 rfl rfl rfl rfl hP (M.sub (cc (cc (cc (cn ns))))) (λ_ M↦qh M o93 rfl 0 rfl rfl) λa A↦?_
  obtain ⟨ty48, bt49, ot50, it51, mt52, rt53, lt54, Ht55⟩ := ((hsr _ ((M.dropn 1)))).T.at_ (i := (u.par).toNat) (by omega)
  refine qe (v := pA bt49 (ot50 + (u.par).toNat * 7)) A 10 rfl rfl rfl rfl hP (M.sub (cc (cc (cc (cn ns))))) (λ_ M↦qx (k := (u.par).toNat) Tryz.underlying26 (by kernel_rfl) rfl rfl (by first | rfl | omega) lt54 (by omega)) λa A↦?_
  refine qe (v := pA bt49 (ot50 + (u.par).toNat * 7 + 4)) A 11 rfl rfl rfl rfl hP (M.sub (cc (cc (cc (cn ns))))) (λ_ M↦qb qbf rfl rfl) λa A↦?_
  refine qe A 12 rfl rfl rfl rfl hP (M.sub (cc (cc (cc (cn ns))))) (λ_ M↦qgi (j := 4) qmd (by decide) M 2 rfl it51 lt54 rfl o94 rfl (by omega)) λa A↦?_
  refine qe (v := bV ty48.sl) A 13 rfl rfl rfl rfl hP (M.sub (cc (cc (cc (cn ns))))) (λ_ M↦jc rfl rfl rfl rfl) λa A↦?_
  refine qe A 14 rfl rfl rfl rfl hP (M.sub (cc (cc (cc (cn ns))))) (λ_ M↦qp rfl) λa A↦?_
  refine ze (by kernel_rfl) ?_
  refine hK46 _ _ ?_
  refine wp_cond_split (t := ty48.sl) (A.ev rfl) (fun hc56 => ?_) (fun hc56 => ?_)
  ·
   rw [qbe (show 0 ≤ u.par by omega) (zn it51)] at hsl
   rw [show ty48.sl = false from hsl] at hc56
   cases hc56
  ·
   refine wsk fun K57 hK57 => zp (S := fun w1 => Mg w0 w1 (.obj g2 (.cells u.c.toArray 33) :: .obj b (.cells (sC tz tc ts ro rc rs).toArray 73) :: [])) (by kernel_rfl) ?_
   replace M := M.drew
   refine qe A 0 rfl rfl rfl rfl hP (M.sub (cc (cc (cn (cn ns))))) (λ_ M↦ql rfl) λa A↦?_
   refine qe (v := pA g2 1) A 1 rfl rfl rfl rfl hP (M.sub (cc (cc (cn (cn ns))))) (λ_ M↦qb ju rfl rfl) λa A↦?_
   refine qe A 2 rfl rfl rfl rfl hP (M.sub (cc (cc (cn (cn ns))))) (λ_ M↦qh M o93 rfl 0 rfl rfl) λa A↦?_
   refine qe (v := pA g2 2) A 4 rfl rfl rfl rfl hP (M.sub (cc (cc (cn (cn ns))))) (λ_ M↦qb xu rfl rfl) λa A↦?_
   refine qe A 5 rfl rfl rfl rfl hP (M.sub (cc (cc (cn (cn ns))))) (λ_ M↦qh M qai rfl 0 rfl rfl) λa A↦?_
   refine qe (v := iV (((u.fs.length : Nat) : Int))) A 6 rfl rfl rfl rfl hP (M.sub (cc (cc (cn (cn ns))))) (λ_ M↦qn Tryz.underlying30 rfl) λa A↦?_
   refine zd (by kernel_rfl) (jf A 3 rfl rfl rfl rfl (zj rfl rfl (fun w => by kernel_rfl)) (vq (hsr _ ((M.dropn 1))) hW (by omega) (by omega)) ?_)
   rintro _ w59 ⟨rfl, hb58⟩
   replace M := M.call hb58
   refine ⟨_, rfl, (M.sub (cc (cc (cn (cn ns))))), ?_⟩
   intro a A
   refine qe (v := iV (((cnt (ts.map Ty.k) u.par + u.fs.length : Nat) : Int))) A 7 rfl rfl rfl rfl hP (M.sub (cc (cc (cn (cn ns))))) (λ_ M↦qg rfl rfl (fun w => (ja (ji (by omega) (by omega)) w).trans (by rw [show (((cnt (ts.map Ty.k) u.par : Nat) : Int) + ((u.fs.length : Nat) : Int) : Int) = ((cnt (ts.map Ty.k) u.par + u.fs.length : Nat) : Int) from by omega]))) λa A↦?_
   refine qe (v := bV false) A 8 rfl rfl rfl rfl hP (M.sub (cc (cc (cn (cn ns))))) (λ_ M↦qg rfl rfl (fun w => (jk w).trans (by rw [show (decide (16 < ((cnt (ts.map Ty.k) u.par + u.fs.length : Nat) : Int))) = false from (decide_eq_false (by omega))]))) λa A↦?_
   refine qe A 9 rfl rfl rfl rfl hP (M.sub (cc (cc (cn (cn ns))))) (λ_ M↦ql rfl) λa A↦?_
   refine qe A 10 rfl rfl rfl rfl hP (M.sub (cc (cc (cn (cn ns))))) (λ_ M↦ql rfl) λa A↦?_
   refine qe A 11 rfl rfl rfl rfl hP (M.sub (cc (cc (cn (cn ns))))) (λ_ M↦zh rfl) λa A↦?_
   refine qe (v := pA b 0) A 12 rfl rfl rfl rfl hP (M.sub (cc (cc (cn (cn ns))))) (λ_ M↦qb jw rfl rfl) λa A↦?_
   refine qe A 13 rfl rfl rfl rfl hP (M.sub (cc (cc (cn (cn ns))))) (λ_ M↦qh M xn rfl 1 rfl rfl) λa A↦?_
   refine qe (v := iV (((ts.length : Nat) : Int))) A 14 rfl rfl rfl rfl hP (M.sub (cc (cc (cn (cn ns))))) (λ_ M↦qn Tryz.underlying26 rfl) λa A↦?_
   refine qe (v := bV false) A 15 rfl rfl rfl rfl hP (M.sub (cc (cc (cn (cn ns))))) (λ_ M↦qg rfl rfl (fun w => (zl w).trans (by rw [show (decide (4096 ≤ ((ts.length : Nat) : Int))) = false from (decide_eq_false (by omega))]))) λa A↦?_
   refine qe (v := bV false) A 16 rfl rfl rfl rfl hP (M.sub (cc (cc (cn (cn ns))))) (λ_ M↦jc rfl rfl rfl rfl) λa A↦?_
   refine qe A 17 rfl rfl rfl rfl hP (M.sub (cc (cc (cn (cn ns))))) (λ_ M↦qp rfl) λa A↦?_
   refine ze (by kernel_rfl) ?_
   refine hK57 _ _ (wp_cond_false (A.ev rfl) ?_)
   refine wp_skip ?_
   exact hJ14 _ _ ⟨A.keep _ (by repeat' constructor), M⟩
 ·
  have hb47' := bne_eq_false_iff_eq.1 hb47
  refine qe (v := bV false) A 2 rfl rfl rfl rfl hP (M.sub (cc (cc (cc (cn ns))))) (λ_ M↦qg rfl rfl (fun w => (zg w).trans (by rw [hb47]))) λa A↦?_
  refine qe A 3 rfl rfl rfl rfl hP (M.sub (cc (cc (cc (cn ns))))) (λ_ M↦ql rfl) λa A↦?_
  refine je A 4 rfl rfl rfl rfl hP (M.sub (cc (cc (cc (cn ns))))) λa A↦?_
  refine je A 5 rfl rfl rfl rfl hP (M.sub (cc (cc (cc (cn ns))))) λa A↦?_
  refine je A 6 rfl rfl rfl rfl hP (M.sub (cc (cc (cc (cn ns))))) λa A↦?_
  refine je A 7 rfl rfl rfl rfl hP (M.sub (cc (cc (cc (cn ns))))) λa A↦?_
  refine je A 8 rfl rfl rfl rfl hP (M.sub (cc (cc (cc (cn ns))))) λa A↦?_
  refine je A 9 rfl rfl rfl rfl hP (M.sub (cc (cc (cc (cn ns))))) λa A↦?_
  refine je A 10 rfl rfl rfl rfl hP (M.sub (cc (cc (cc (cn ns))))) λa A↦?_
  refine je A 11 rfl rfl rfl rfl hP (M.sub (cc (cc (cc (cn ns))))) λa A↦?_
  refine je A 12 rfl rfl rfl rfl hP (M.sub (cc (cc (cc (cn ns))))) λa A↦?_
  refine qe (v := bV false) A 13 rfl rfl rfl rfl hP (M.sub (cc (cc (cc (cn ns))))) (λ_ M↦jc rfl rfl rfl rfl) λa A↦?_
  refine qe A 14 rfl rfl rfl rfl hP (M.sub (cc (cc (cc (cn ns))))) (λ_ M↦qp rfl) λa A↦?_
  refine ze (by kernel_rfl) ?_
  refine hK46 _ _ (wp_cond_false (A.ev rfl) ?_)
  refine wsk fun K60 hK60 => zp (S := fun w1 => Mg w0 w1 (.obj g2 (.cells u.c.toArray 33) :: .obj b (.cells (sC tz tc ts ro rc rs).toArray 73) :: [])) (by kernel_rfl) ?_
  replace M := M.drew
  refine qe A 0 rfl rfl rfl rfl hP (M.sub (cc (cc (cn (cn ns))))) (λ_ M↦ql rfl) λa A↦?_
  refine qe (v := pA g2 1) A 1 rfl rfl rfl rfl hP (M.sub (cc (cc (cn (cn ns))))) (λ_ M↦qb ju rfl rfl) λa A↦?_
  refine qe A 2 rfl rfl rfl rfl hP (M.sub (cc (cc (cn (cn ns))))) (λ_ M↦qh M o93 rfl 0 rfl rfl) λa A↦?_
  refine qe (v := pA g2 2) A 4 rfl rfl rfl rfl hP (M.sub (cc (cc (cn (cn ns))))) (λ_ M↦qb xu rfl rfl) λa A↦?_
  refine qe A 5 rfl rfl rfl rfl hP (M.sub (cc (cc (cn (cn ns))))) (λ_ M↦qh M qai rfl 0 rfl rfl) λa A↦?_
  refine qe (v := iV (((u.fs.length : Nat) : Int))) A 6 rfl rfl rfl rfl hP (M.sub (cc (cc (cn (cn ns))))) (λ_ M↦qn Tryz.underlying30 rfl) λa A↦?_
  refine zd (by kernel_rfl) (jf A 3 rfl rfl rfl rfl (zj rfl rfl (fun w => by kernel_rfl)) (vq (hsr _ ((M.dropn 1))) hW (by omega) (by omega)) ?_)
  rintro _ w62 ⟨rfl, hb61⟩
  replace M := M.call hb61
  refine ⟨_, rfl, (M.sub (cc (cc (cn (cn ns))))), ?_⟩
  intro a A
  refine qe (v := iV (((cnt (ts.map Ty.k) u.par + u.fs.length : Nat) : Int))) A 7 rfl rfl rfl rfl hP (M.sub (cc (cc (cn (cn ns))))) (λ_ M↦qg rfl rfl (fun w => (ja (ji (by omega) (by omega)) w).trans (by rw [show (((cnt (ts.map Ty.k) u.par : Nat) : Int) + ((u.fs.length : Nat) : Int) : Int) = ((cnt (ts.map Ty.k) u.par + u.fs.length : Nat) : Int) from by omega]))) λa A↦?_
  refine qe (v := bV false) A 8 rfl rfl rfl rfl hP (M.sub (cc (cc (cn (cn ns))))) (λ_ M↦qg rfl rfl (fun w => (jk w).trans (by rw [show (decide (16 < ((cnt (ts.map Ty.k) u.par + u.fs.length : Nat) : Int))) = false from (decide_eq_false (by omega))]))) λa A↦?_
  refine qe A 9 rfl rfl rfl rfl hP (M.sub (cc (cc (cn (cn ns))))) (λ_ M↦ql rfl) λa A↦?_
  refine qe A 10 rfl rfl rfl rfl hP (M.sub (cc (cc (cn (cn ns))))) (λ_ M↦ql rfl) λa A↦?_
  refine qe A 11 rfl rfl rfl rfl hP (M.sub (cc (cc (cn (cn ns))))) (λ_ M↦zh rfl) λa A↦?_
  refine qe (v := pA b 0) A 12 rfl rfl rfl rfl hP (M.sub (cc (cc (cn (cn ns))))) (λ_ M↦qb jw rfl rfl) λa A↦?_
  refine qe A 13 rfl rfl rfl rfl hP (M.sub (cc (cc (cn (cn ns))))) (λ_ M↦qh M xn rfl 1 rfl rfl) λa A↦?_
  refine qe (v := iV (((ts.length : Nat) : Int))) A 14 rfl rfl rfl rfl hP (M.sub (cc (cc (cn (cn ns))))) (λ_ M↦qn Tryz.underlying26 rfl) λa A↦?_
  refine qe (v := bV false) A 15 rfl rfl rfl rfl hP (M.sub (cc (cc (cn (cn ns))))) (λ_ M↦qg rfl rfl (fun w => (zl w).trans (by rw [show (decide (4096 ≤ ((ts.length : Nat) : Int))) = false from (decide_eq_false (by omega))]))) λa A↦?_
  refine qe (v := bV false) A 16 rfl rfl rfl rfl hP (M.sub (cc (cc (cn (cn ns))))) (λ_ M↦jc rfl rfl rfl rfl) λa A↦?_
  refine qe A 17 rfl rfl rfl rfl hP (M.sub (cc (cc (cn (cn ns))))) (λ_ M↦qp rfl) λa A↦?_
  refine ze (by kernel_rfl) ?_
  refine hK60 _ _ (wp_cond_false (A.ev rfl) ?_)
  refine wp_skip ?_
  exact hJ14 _ _ ⟨A.keep _ (by repeat' constructor), M⟩
theorem qqd {w : World} {t : Dt} (ht : t.rd w) (hT : Tabs8 w) : Calls Tryz.prog 34 #[.agg (t.d.cells t.ts.length).toArray] w fun e w' => e = .returned (bV (!jh zx t.tr)) ∧ Below w.heap.size w w' := by
 have M : Mg w w ([]) := Mg.start w
 refine qs (l := [(0, .agg (t.d.cells t.ts.length).toArray)]) Tryz.func34 rfl Tryz.ntmps34 rfl rfl ?_
 intro Q hret hnorm hP a A
 refine wsk fun K1 hK1 => wrl (zy (vs := (t.d.cells t.ts.length)) (t := 42) A M rfl rfl rfl pg (zf rfl rfl) (by decide) ?_)
 intro g2 w3 M a A
 refine sda A λa A↦?_
 refine qa (hK1 _ _ (wsk fun K4 hK4 => wrl (sdo A (qz M xz rfl 0 rfl (cs := (t.d.cells t.ts.length)) rfl rfl) λa A↦?_)))
 rcases tf (jh zx t.tr) with hb5 | hb5
 ·
  refine gcl A M (ef rfl rfl) ((hb5 ▸ sound_any (t := t) (Dt.keep M.bel _ ht) (hT.below M.bel))) fun w7 hb6 M a A => ?_
  refine sdo (v := bV false) A (zi rfl zm) λa A↦?_
  refine sda A λa A↦?_
  refine qa (hK4 _ _ (wp_ret (hret _ _ (en1 A rfl (qf rfl) ?_))))
  exact ⟨by simp_all, M.bel⟩
 ·
  refine gcl A M (ef rfl rfl) ((hb5 ▸ sound_any (t := t) (Dt.keep M.bel _ ht) (hT.below M.bel))) fun w9 hb8 M a A => ?_
  refine sdo (v := bV true) A (zi rfl zm) λa A↦?_
  refine sda A λa A↦?_
  refine qa (hK4 _ _ (wp_ret (hret _ _ (en1 A rfl (qf rfl) ?_))))
  exact ⟨by simp_all, M.bel⟩
theorem zuh {w : World} {ts : List Dt} (hD : ∀ t ∈ ts, t.rd w) (hT : Tabs8 w) : Asks Tryz.prog 34 [] w ts (fun t => !jh zx t.tr) := ⟨fun us w => by kernel_rfl, fun t w1 ht hb => qqd (Dt.keep hb _ (hD t ht)) (hT.below hb)⟩
theorem zui (vs : List Dt) : (vs.any fun t => !jh zx t.tr) = !(vs.map Dt.tr).all (jh zx) := by
 induction vs with
 | nil => rfl
 | cons t ts ih => rw [List.any_cons, List.map_cons, List.all_cons, ih, Bool.not_and]
theorem qbh {w : World} {so : Option Addr} {ca : Nat} {vs : List Dt} (hR : Rt w so vs) (hD : ∀ t ∈ vs, t.rd w) (hl : vs.length ≤ 1000000000) (hT : Tabs8 w) {b : Bool} (h : (vs.map Dt.tr).all (jh zx) = b) : Calls Tryz.prog 33 #[.slice so vs.length ca, .func (.func 34) #[] #[]] w fun e w' => e = .returned (bV (!b)) ∧ Below w.heap.size w w' := by
 have := qva (ca := ca) (cs := []) hR hD hl (zuh hD hT)
 rw [zui, h] at this
 exact this
set_option maxHeartbeats 2000000 in
theorem zuj {w0 w : World} {b tc rc : Nat} {tz ro : Option Addr} {ts : List Ty} {rs : List Rk} {Y : List Ck} (hY : jd Y) (hW : WS (ts.map Ty.k) (rs.map Rk.k)) (hsr : ∀ w1, Mg w0 w1 (.obj b (.cells (sC tz tc ts ro rc rs).toArray 73) :: .row 33 7 (.slice tz ts.length tc) ts.length (qt Ty.c ts) :: .row 86 2 (.slice ro rs.length rc) rs.length (qt Rk.c rs) :: Y) → SR w1 b tz tc ts ro rc rs) (hM0 : Mg w0 w (.obj b (.cells (sC tz tc ts ro rc rs).toArray 73) :: .row 33 7 (.slice tz ts.length tc) ts.length (qt Ty.c ts) :: .row 86 2 (.slice ro rs.length rc) rs.length (qt Rk.c rs) :: Y)) {vo : Option Addr} {vc : Nat} {vs : List Dt} (hV : ∀ w1, Mg w0 w1 Y → Rt w1 vo vs ∧ ∀ d ∈ vs, d.rd w1) (hvb : Tr.bulks (vs.map Dt.tr) ≤ 1000000000) (hT : ∀ w1, Mg w0 w1 Y → Tabs8 w1) {t : Int} (hok : okT ts.length t = true) (hcn : vs.length = cnt (ts.map Ty.k) t) (hso : (vs.map Dt.tr).all (jh zx) = true) (hn : rs.length < 20000) : Calls Tryz.prog 10 #[pA b 0, iV t, .slice vo vs.length vc] w fun e w' => ∃ (us : List Dt) (so6 : Option Addr) (ca6 : Nat) (ro' : Option Addr) (rc' : Nat) (F : List Ck), e = .returned (.tuple #[iV ((rs.length : Nat) : Int), iV 0]) ∧ (us.map Dt.tr = vs.map Dt.tr ∧ (∀ d ∈ us, Lives F d) ∧ jd F) ∧ Mg w0 w' (.obj b (.cells #[.slice tz ts.length tc, .slice ro' ((rs ++ [(Rk.mk t.toNat so6 ca6 us)]).length) rc'] 73) :: .row 33 7 (.slice tz ts.length tc) ts.length (qt Ty.c ts) :: .row 86 2 (.slice ro' ((rs ++ [(Rk.mk t.toNat so6 ca6 us)]).length) rc') ((rs ++ [(Rk.mk t.toNat so6 ca6 us)]).length) (qt Rk.c (rs ++ [(Rk.mk t.toNat so6 ca6 us)])) :: .row 42 11 (.slice so6 us.length ca6) us.length (cellsOf us) :: (F ++ Y)) := by
 have hkl := hW.kl
 have hrl := hW.rl
 rw [List.length_map] at hkl hrl
 have hvl := yk vs
 obtain ⟨ht0, ht1⟩ := ke hok
 have M : Mg w0 w (.obj b (.cells (sC tz tc ts ro rc rs).toArray 73) :: .row 33 7 (.slice tz ts.length tc) ts.length (qt Ty.c ts) :: .row 86 2 (.slice ro rs.length rc) rs.length (qt Rk.c rs) :: Y) := hM0
 refine qs (l := [(0, pA b 0), (1, iV t), (2, .slice vo vs.length vc)]) Tryz.func10 rfl Tryz.ntmps10 rfl rfl ?_
 intro Q hret hnorm hP a A
 refine wsk fun K1 hK1 => wrl ?_
 iterate 2 refine sda A λa A↦?_
 refine qa (hK1 _ _ (wsk fun K2 hK2 => wrl ?_))
 iterate 2 refine sdm A λa A↦?_
 refine gcl A M (ef rfl rfl) (vp (hsr _ ((M.dropn 0))) hW hok) fun w4 hb3 M a A => ?_
 refine sda A λa A↦?_
 refine qa (hK2 _ _ (wsk fun K5 hK5 => wp_block (wsk fun K6 hK6 => wrl (sdm A λa A↦?_))))
 refine sdo (v := bV false) A (qg rfl rfl (fun w => by kernel_rfl)) λa A↦?_
 refine sda A λa A↦?_
 refine qa (hK6 _ _ (wp_cond_false (A.ev rfl) ?_))
 refine wsk fun K7 hK7 => wrl (sdm A λa A↦?_)
 refine sdo A (qn Tryz.underlying34 rfl) λa A↦?_
 iterate 2 refine sdm A λa A↦?_
 refine gcl A M (ef rfl rfl) (vq (hsr _ ((M.dropn 0))) hW (by omega) (by omega)) fun w9 hb8 M a A => ?_
 refine sdo (v := bV false) A (qg rfl rfl (fun w => (zg w).trans (by rw [show ((((vs.length : Nat) : Int) != ((cnt (ts.map Ty.k) t : Nat) : Int))) = false from (by simp; omega)]))) λa A↦?_
 refine sda A λa A↦?_
 refine qa (hK7 _ _ (wp_cond_false (A.ev rfl) ?_))
 refine wsk fun K10 hK10 => wrl (sdm A λa A↦?_)
 refine gcl A M (ef rfl rfl) (qbh (hV _ (M.dropn 3)).1 (hV _ (M.dropn 3)).2 (by omega) (hT _ (M.dropn 3)) hso) fun w12 hb11 M a A => ?_
 refine sda A λa A↦?_
 refine qa (hK10 _ _ (wp_cond_false (A.ev rfl) ?_))
 refine wsk fun K13 hK13 => wrl (sdm A λa A↦?_)
 refine sdo A (zh rfl) λa A↦?_
 refine sdo (v := pA b 1) A (qb ka rfl rfl) λa A↦?_
 refine sdo A (qh M qib rfl 0 rfl rfl) λa A↦?_
 refine sdo A (qn Tryz.underlying71 rfl) λa A↦?_
 refine sdo (v := bV false) A (qg rfl rfl (fun w => (zl w).trans (by rw [show (decide (20000 ≤ ((rs.length : Nat) : Int))) = false from (decide_eq_false (by omega))]))) λa A↦?_
 refine sda A λa A↦?_
 refine qa (hK13 _ _ (wp_cond_false (A.ev rfl) ?_))
 refine wp_skip (hK5 _ _ (wsk fun K14 hK14 => zp (S := fun w1 => Mg w0 w1 ([])) (by kernel_rfl) ?_))
 replace M := M.drew
 refine qe A 0 rfl rfl rfl rfl hP (M.sub (cn (cn (cn ns)))) (λ_ M↦ql rfl) λa A↦?_
 refine qe A 1 rfl rfl rfl rfl hP (M.sub (cn (cn (cn ns)))) (λ_ M↦ql rfl) λa A↦?_
 refine qe A 2 rfl rfl rfl rfl hP (M.sub (cn (cn (cn ns)))) (λ_ M↦zh rfl) λa A↦?_
 refine qe (v := pA b 1) A 3 rfl rfl rfl rfl hP (M.sub (cn (cn (cn ns)))) (λ_ M↦qb ka rfl rfl) λa A↦?_
 refine qe A 5 rfl rfl rfl rfl hP (M.sub (cn (cn (cn ns)))) (λ_ M↦ql rfl) λa A↦?_
 refine qe A 6 rfl rfl rfl rfl hP (M.sub (cn (cn (cn ns)))) (λ_ M↦ql rfl) λa A↦?_
 refine qba (rs := [4, 7]) (by kernel_rfl) (by simp) ⟨?_, ?_, trivial⟩
 ·
  refine qfa A 4 rfl rfl rfl rfl (qh M qib rfl 0 rfl rfl) (M.sub (cn (cn (cn ns)))) λa A↦?_
  refine zd (by kernel_rfl) (jf A 7 rfl rfl rfl rfl (zj rfl rfl (fun w => by kernel_rfl)) (qid (fun t _ => qac t) (hV _ (M.dropn 3)).1 (hV _ (M.dropn 3)).2 hvb) ?_)
  rintro _ w16 ⟨v6, us, rfl, ⟨htr, hus⟩, hM15⟩
  obtain ⟨so6, ca6, rfl⟩ := jg (hM15.has 0 rfl)
  have hun : us.length = vs.length := by have := congrArg List.length htr; simpa using this
  have hLu : ∀ t ∈ us, Lives (others w12.drew w16 [.row 42 11 (.slice so6 us.length ca6) us.length (cellsOf us)]) t := fun t ht => qgh (hus t ht).1 (Dt.at_mono (fun b9 hb9 => ⟨hb9.1, fun d hd => by rw [List.mem_singleton] at hd; subst hd; exact hb9.2⟩) _ (hus t ht).2)
  replace M : Mg w0 w16 (.row 42 11 (.slice so6 us.length ca6) us.length (cellsOf us) :: .obj b (.cells (sC tz tc ts ro rc rs).toArray 73) :: .row 33 7 (.slice tz ts.length tc) ts.length (qt Ty.c ts) :: .row 86 2 (.slice ro rs.length rc) rs.length (qt Rk.c rs) :: (others w12.drew w16 [.row 42 11 (.slice so6 us.length ca6) us.length (cellsOf us)] ++ Y)) := M.data 3 (qi (by simp) (qi (by simp) (qi (by simp) hY))) hM15 (qi (by simp) (qk qm))
  refine ⟨_, rfl, (M.sub (cn (cn (cn (cn ns))))), ?_⟩
  intro a A
  refine qe (v := .agg #[iV (((t.toNat : Nat) : Int)), .slice so6 us.length ca6]) A 8 rfl rfl rfl rfl hP (M.sub (cn (cn (cn (cn ns))))) (λ_ M↦jb rfl (fun w => by rw [show ((t.toNat : Nat) : Int) = t by omega]; kernel_rfl)) λa A↦?_
  refine zd (by kernel_rfl) (qrb (e := 86) (sz := 2) (m := 1) (vs := qt Rk.c [(Rk.mk t.toNat so6 ca6 us)]) A M 9 rfl rfl rfl rfl (qy rfl (by kernel_rfl)) rfl rfl (.inl (by decide)) ?_)
  intro g17 w18 M
  refine ⟨(M.sub (cn (cn (cn (cn (cn ns)))))), ?_⟩
  intro a A
  refine zd (by kernel_rfl) (uk (e := 86) (sz := 2) (k := 4) (q := rs.length) (m := 1) (xs := qt Rk.c rs) (news := qt Rk.c [(Rk.mk t.toNat so6 ca6 us)]) (L' := fun v19 => (.row 86 2 (.slice (aO g17) 1 1) 1 (qt Rk.c [(Rk.mk t.toNat so6 ca6 us)]) :: .row 42 11 (.slice so6 us.length ca6) us.length (cellsOf us) :: .obj b (.cells (sC tz tc ts ro rc rs).toArray 73) :: .row 33 7 (.slice tz ts.length tc) ts.length (qt Ty.c ts) :: .row 86 2 (v19) (rs.length + 1) (qt Rk.c rs ++ qt Rk.c [(Rk.mk t.toNat so6 ca6 us)]) :: (others w12.drew w16 [.row 42 11 (.slice so6 us.length ca6) us.length (cellsOf us)] ++ Y))) A 10 rfl rfl rfl rfl (xb (z := .agg #[iV 0, .slice none 0 0]) (sz := 2) (by_ := 32) Tryz.underlying71 (by kernel_rfl) rfl rfl rfl M 4 rfl rfl rfl rfl (rc_own (M.has 0 rfl)) (qhi _) (by omega)) (fun _ => rfl) ?_)
  intro v19 w20 M
  replace M : Mg w0 w20 (.row 86 2 (.slice (aO g17) 1 1) 1 (qt Rk.c [(Rk.mk t.toNat so6 ca6 us)]) :: .row 42 11 (.slice so6 us.length ca6) us.length (cellsOf us) :: .obj b (.cells (sC tz tc ts ro rc rs).toArray 73) :: .row 33 7 (.slice tz ts.length tc) ts.length (qt Ty.c ts) :: .row 86 2 (v19) ((rs ++ [(Rk.mk t.toNat so6 ca6 us)]).length) (qt Rk.c (rs ++ [(Rk.mk t.toNat so6 ca6 us)])) :: (others w12.drew w16 [.row 42 11 (.slice so6 us.length ca6) us.length (cellsOf us)] ++ Y)) := by
   have h9 := M
   rw [← jx] at h9
   rw [List.length_append]
   exact h9
  obtain ⟨so21, ca22, rfl⟩ := jg (M.has 4 rfl)
  have hln : (rs ++ [(Rk.mk t.toNat so6 ca6 us)]).length = rs.length + 1 := by rw [List.length_append]; rfl
  refine ⟨(M.sub (cn (cn (cn (cn (cn ns)))))), ?_⟩
  intro a A
  refine qe A 11 rfl rfl rfl rfl hP (M.sub (cn (cn (cn (cn (cn ns)))))) (λ_ M↦zh rfl) λa A↦?_
  refine qe (v := pA b 1) A 12 rfl rfl rfl rfl hP (M.sub (cn (cn (cn (cn (cn ns)))))) (λ_ M↦qb ka rfl rfl) λa A↦?_
  refine zd (by kernel_rfl) (jm (L' := (.row 86 2 (.slice (aO g17) 1 1) 1 (qt Rk.c [(Rk.mk t.toNat so6 ca6 us)]) :: .row 42 11 (.slice so6 us.length ca6) us.length (cellsOf us) :: .obj b (.cells #[.slice tz ts.length tc, .slice so21 ((rs ++ [(Rk.mk t.toNat so6 ca6 us)]).length) ca22] 73) :: .row 33 7 (.slice tz ts.length tc) ts.length (qt Ty.c ts) :: .row 86 2 (.slice so21 ((rs ++ [(Rk.mk t.toNat so6 ca6 us)]).length) ca22) ((rs ++ [(Rk.mk t.toNat so6 ca6 us)]).length) (qt Rk.c (rs ++ [(Rk.mk t.toNat so6 ca6 us)])) :: (others w12.drew w16 [.row 42 11 (.slice so6 us.length ca6) us.length (cellsOf us)] ++ Y))) A M 13 rfl rfl rfl (za rfl rfl rfl (by kernel_rfl) M 2 rfl rfl rfl) 2 rfl rfl rfl ?_)
  intro w23 M
  refine ⟨(M.sub (cn (cn (cn (cn (cn ns)))))), ?_⟩
  refine ze (by kernel_rfl) ?_
  refine hK14 _ _ (wsk fun K24 hK24 => wrl (sdm A λa A↦?_))
  refine sdo A (zh rfl) λa A↦?_
  refine sdo (v := pA b 1) A (qb ka rfl rfl) λa A↦?_
  refine sdo A (qh M qib rfl 2 rfl rfl) λa A↦?_
  refine sdo A (qn Tryz.underlying71 rfl) λa A↦?_
  refine sdo (v := iV ((((rs ++ [(Rk.mk t.toNat so6 ca6 us)]).length - 1 : Nat) : Int))) A (qg rfl rfl (fun w => (kn (ji (by omega) (by omega)) w).trans (by rw [show ((((rs ++ [(Rk.mk t.toNat so6 ca6 us)]).length : Nat) : Int) - 1 : Int) = (((rs ++ [(Rk.mk t.toNat so6 ca6 us)]).length - 1 : Nat) : Int) from by omega]))) λa A↦?_
  iterate 2 refine sda A λa A↦?_
  refine qa (hK24 _ _ (wp_ret (hret _ _ (en2 A rfl (qf rfl) (qf rfl) ?_))))
  replace M : Mg w0 w23 (.obj b (.cells #[.slice tz ts.length tc, .slice so21 ((rs ++ [(Rk.mk t.toNat so6 ca6 us)]).length) ca22] 73) :: .row 33 7 (.slice tz ts.length tc) ts.length (qt Ty.c ts) :: .row 86 2 (.slice so21 ((rs ++ [(Rk.mk t.toNat so6 ca6 us)]).length) ca22) ((rs ++ [(Rk.mk t.toNat so6 ca6 us)]).length) (qt Rk.c (rs ++ [(Rk.mk t.toNat so6 ca6 us)])) :: .row 42 11 (.slice so6 us.length ca6) us.length (cellsOf us) :: (others w12.drew w16 [.row 42 11 (.slice so6 us.length ca6) us.length (cellsOf us)] ++ Y)) := ((((M.bring 1 rfl rfl).bring 4 rfl rfl).bring 4 rfl rfl).bring 4 rfl rfl).sub (cc (cc (cc (cc (cn (.refl _))))))
  exact ⟨us, so6, ca6, so21, ca22, _, by rw [show (rs ++ [(Rk.mk t.toNat so6 ca6 us)]).length - 1 = rs.length by omega], ⟨htr, hLu, qad⟩, M⟩
 ·
  refine jf A 7 rfl rfl rfl rfl (zj rfl rfl (fun w => by kernel_rfl)) (qid (fun t _ => qac t) (hV _ (M.dropn 3)).1 (hV _ (M.dropn 3)).2 hvb) ?_
  rintro _ w26 ⟨v6, us, rfl, ⟨htr, hus⟩, hM25⟩
  obtain ⟨so6, ca6, rfl⟩ := jg (hM25.has 0 rfl)
  have hun : us.length = vs.length := by have := congrArg List.length htr; simpa using this
  have hLu : ∀ t ∈ us, Lives (others w12.drew w26 [.row 42 11 (.slice so6 us.length ca6) us.length (cellsOf us)]) t := fun t ht => qgh (hus t ht).1 (Dt.at_mono (fun b9 hb9 => ⟨hb9.1, fun d hd => by rw [List.mem_singleton] at hd; subst hd; exact hb9.2⟩) _ (hus t ht).2)
  replace M : Mg w0 w26 (.row 42 11 (.slice so6 us.length ca6) us.length (cellsOf us) :: .obj b (.cells (sC tz tc ts ro rc rs).toArray 73) :: .row 33 7 (.slice tz ts.length tc) ts.length (qt Ty.c ts) :: .row 86 2 (.slice ro rs.length rc) rs.length (qt Rk.c rs) :: (others w12.drew w26 [.row 42 11 (.slice so6 us.length ca6) us.length (cellsOf us)] ++ Y)) := M.data 3 (qi (by simp) (qi (by simp) (qi (by simp) hY))) hM25 (qi (by simp) (qk qm))
  refine ⟨_, rfl, (M.sub (cn (cn (cn (cn ns))))), ?_⟩
  intro a A
  refine qe (v := .agg #[iV (((t.toNat : Nat) : Int)), .slice so6 us.length ca6]) A 8 rfl rfl rfl rfl hP (M.sub (cn (cn (cn (cn ns))))) (λ_ M↦jb rfl (fun w => by rw [show ((t.toNat : Nat) : Int) = t by omega]; kernel_rfl)) λa A↦?_
  refine qba (rs := [4, 9]) (by kernel_rfl) (by simp) ⟨?_, ?_, trivial⟩
  ·
   refine qfa A 4 rfl rfl rfl rfl (qh M qib rfl 1 rfl rfl) (M.sub (cn (cn (cn (cn ns))))) λa A↦?_
   refine zd (by kernel_rfl) (qrb (e := 86) (sz := 2) (m := 1) (vs := qt Rk.c [(Rk.mk t.toNat so6 ca6 us)]) A M 9 rfl rfl rfl rfl (qy rfl (by kernel_rfl)) rfl rfl (.inl (by decide)) ?_)
   intro g27 w28 M
   refine ⟨(M.sub (cn (cn (cn (cn (cn ns)))))), ?_⟩
   intro a A
   refine zd (by kernel_rfl) (uk (e := 86) (sz := 2) (k := 4) (q := rs.length) (m := 1) (xs := qt Rk.c rs) (news := qt Rk.c [(Rk.mk t.toNat so6 ca6 us)]) (L' := fun v29 => (.row 86 2 (.slice (aO g27) 1 1) 1 (qt Rk.c [(Rk.mk t.toNat so6 ca6 us)]) :: .row 42 11 (.slice so6 us.length ca6) us.length (cellsOf us) :: .obj b (.cells (sC tz tc ts ro rc rs).toArray 73) :: .row 33 7 (.slice tz ts.length tc) ts.length (qt Ty.c ts) :: .row 86 2 (v29) (rs.length + 1) (qt Rk.c rs ++ qt Rk.c [(Rk.mk t.toNat so6 ca6 us)]) :: (others w12.drew w26 [.row 42 11 (.slice so6 us.length ca6) us.length (cellsOf us)] ++ Y))) A 10 rfl rfl rfl rfl (xb (z := .agg #[iV 0, .slice none 0 0]) (sz := 2) (by_ := 32) Tryz.underlying71 (by kernel_rfl) rfl rfl rfl M 4 rfl rfl rfl rfl (rc_own (M.has 0 rfl)) (qhi _) (by omega)) (fun _ => rfl) ?_)
   intro v29 w30 M
   replace M : Mg w0 w30 (.row 86 2 (.slice (aO g27) 1 1) 1 (qt Rk.c [(Rk.mk t.toNat so6 ca6 us)]) :: .row 42 11 (.slice so6 us.length ca6) us.length (cellsOf us) :: .obj b (.cells (sC tz tc ts ro rc rs).toArray 73) :: .row 33 7 (.slice tz ts.length tc) ts.length (qt Ty.c ts) :: .row 86 2 (v29) ((rs ++ [(Rk.mk t.toNat so6 ca6 us)]).length) (qt Rk.c (rs ++ [(Rk.mk t.toNat so6 ca6 us)])) :: (others w12.drew w26 [.row 42 11 (.slice so6 us.length ca6) us.length (cellsOf us)] ++ Y)) := by
    have h9 := M
    rw [← jx] at h9
    rw [List.length_append]
    exact h9
   obtain ⟨so31, ca32, rfl⟩ := jg (M.has 4 rfl)
   have hln : (rs ++ [(Rk.mk t.toNat so6 ca6 us)]).length = rs.length + 1 := by rw [List.length_append]; rfl
   refine ⟨(M.sub (cn (cn (cn (cn (cn ns)))))), ?_⟩
   intro a A
   refine qe A 11 rfl rfl rfl rfl hP (M.sub (cn (cn (cn (cn (cn ns)))))) (λ_ M↦zh rfl) λa A↦?_
   refine qe (v := pA b 1) A 12 rfl rfl rfl rfl hP (M.sub (cn (cn (cn (cn (cn ns)))))) (λ_ M↦qb ka rfl rfl) λa A↦?_
   refine zd (by kernel_rfl) (jm (L' := (.row 86 2 (.slice (aO g27) 1 1) 1 (qt Rk.c [(Rk.mk t.toNat so6 ca6 us)]) :: .row 42 11 (.slice so6 us.length ca6) us.length (cellsOf us) :: .obj b (.cells #[.slice tz ts.length tc, .slice so31 ((rs ++ [(Rk.mk t.toNat so6 ca6 us)]).length) ca32] 73) :: .row 33 7 (.slice tz ts.length tc) ts.length (qt Ty.c ts) :: .row 86 2 (.slice so31 ((rs ++ [(Rk.mk t.toNat so6 ca6 us)]).length) ca32) ((rs ++ [(Rk.mk t.toNat so6 ca6 us)]).length) (qt Rk.c (rs ++ [(Rk.mk t.toNat so6 ca6 us)])) :: (others w12.drew w26 [.row 42 11 (.slice so6 us.length ca6) us.length (cellsOf us)] ++ Y))) A M 13 rfl rfl rfl (za rfl rfl rfl (by kernel_rfl) M 2 rfl rfl rfl) 2 rfl rfl rfl ?_)
   intro w33 M
   refine ⟨(M.sub (cn (cn (cn (cn (cn ns)))))), ?_⟩
   refine ze (by kernel_rfl) ?_
   refine hK14 _ _ (wsk fun K34 hK34 => wrl (sdm A λa A↦?_))
   refine sdo A (zh rfl) λa A↦?_
   refine sdo (v := pA b 1) A (qb ka rfl rfl) λa A↦?_
   refine sdo A (qh M qib rfl 2 rfl rfl) λa A↦?_
   refine sdo A (qn Tryz.underlying71 rfl) λa A↦?_
   refine sdo (v := iV ((((rs ++ [(Rk.mk t.toNat so6 ca6 us)]).length - 1 : Nat) : Int))) A (qg rfl rfl (fun w => (kn (ji (by omega) (by omega)) w).trans (by rw [show ((((rs ++ [(Rk.mk t.toNat so6 ca6 us)]).length : Nat) : Int) - 1 : Int) = (((rs ++ [(Rk.mk t.toNat so6 ca6 us)]).length - 1 : Nat) : Int) from by omega]))) λa A↦?_
   iterate 2 refine sda A λa A↦?_
   refine qa (hK34 _ _ (wp_ret (hret _ _ (en2 A rfl (qf rfl) (qf rfl) ?_))))
   replace M : Mg w0 w33 (.obj b (.cells #[.slice tz ts.length tc, .slice so31 ((rs ++ [(Rk.mk t.toNat so6 ca6 us)]).length) ca32] 73) :: .row 33 7 (.slice tz ts.length tc) ts.length (qt Ty.c ts) :: .row 86 2 (.slice so31 ((rs ++ [(Rk.mk t.toNat so6 ca6 us)]).length) ca32) ((rs ++ [(Rk.mk t.toNat so6 ca6 us)]).length) (qt Rk.c (rs ++ [(Rk.mk t.toNat so6 ca6 us)])) :: .row 42 11 (.slice so6 us.length ca6) us.length (cellsOf us) :: (others w12.drew w26 [.row 42 11 (.slice so6 us.length ca6) us.length (cellsOf us)] ++ Y)) := ((((M.bring 1 rfl rfl).bring 4 rfl rfl).bring 4 rfl rfl).bring 4 rfl rfl).sub (cc (cc (cc (cc (cn (.refl _))))))
   exact ⟨us, so6, ca6, so31, ca32, _, by rw [show (rs ++ [(Rk.mk t.toNat so6 ca6 us)]).length - 1 = rs.length by omega], ⟨htr, hLu, qad⟩, M⟩
  ·
   refine qrb (e := 86) (sz := 2) (m := 1) (vs := qt Rk.c [(Rk.mk t.toNat so6 ca6 us)]) A M 9 rfl rfl rfl rfl (qy rfl (by kernel_rfl)) rfl rfl (.inl (by decide)) ?_
   intro g35 w36 M
   refine ⟨(M.sub (cn (cn (cn (cn (cn ns)))))), ?_⟩
   intro a A
   refine zd (by kernel_rfl) (qfa A 4 rfl rfl rfl rfl (qh M qib rfl 2 rfl rfl) (M.sub (cn (cn (cn (cn (cn ns)))))) ?_)
   intro a A
   refine zd (by kernel_rfl) (uk (e := 86) (sz := 2) (k := 4) (q := rs.length) (m := 1) (xs := qt Rk.c rs) (news := qt Rk.c [(Rk.mk t.toNat so6 ca6 us)]) (L' := fun v37 => (.row 86 2 (.slice (aO g35) 1 1) 1 (qt Rk.c [(Rk.mk t.toNat so6 ca6 us)]) :: .row 42 11 (.slice so6 us.length ca6) us.length (cellsOf us) :: .obj b (.cells (sC tz tc ts ro rc rs).toArray 73) :: .row 33 7 (.slice tz ts.length tc) ts.length (qt Ty.c ts) :: .row 86 2 (v37) (rs.length + 1) (qt Rk.c rs ++ qt Rk.c [(Rk.mk t.toNat so6 ca6 us)]) :: (others w12.drew w26 [.row 42 11 (.slice so6 us.length ca6) us.length (cellsOf us)] ++ Y))) A 10 rfl rfl rfl rfl (xb (z := .agg #[iV 0, .slice none 0 0]) (sz := 2) (by_ := 32) Tryz.underlying71 (by kernel_rfl) rfl rfl rfl M 4 rfl rfl rfl rfl (rc_own (M.has 0 rfl)) (qhi _) (by omega)) (fun _ => rfl) ?_)
   intro v37 w38 M
   replace M : Mg w0 w38 (.row 86 2 (.slice (aO g35) 1 1) 1 (qt Rk.c [(Rk.mk t.toNat so6 ca6 us)]) :: .row 42 11 (.slice so6 us.length ca6) us.length (cellsOf us) :: .obj b (.cells (sC tz tc ts ro rc rs).toArray 73) :: .row 33 7 (.slice tz ts.length tc) ts.length (qt Ty.c ts) :: .row 86 2 (v37) ((rs ++ [(Rk.mk t.toNat so6 ca6 us)]).length) (qt Rk.c (rs ++ [(Rk.mk t.toNat so6 ca6 us)])) :: (others w12.drew w26 [.row 42 11 (.slice so6 us.length ca6) us.length (cellsOf us)] ++ Y)) := by
    have h9 := M
    rw [← jx] at h9
    rw [List.length_append]
    exact h9
   obtain ⟨so39, ca40, rfl⟩ := jg (M.has 4 rfl)
   have hln : (rs ++ [(Rk.mk t.toNat so6 ca6 us)]).length = rs.length + 1 := by rw [List.length_append]; rfl
   refine ⟨(M.sub (cn (cn (cn (cn (cn ns)))))), ?_⟩
   intro a A
   refine qe A 11 rfl rfl rfl rfl hP (M.sub (cn (cn (cn (cn (cn ns)))))) (λ_ M↦zh rfl) λa A↦?_
   refine qe (v := pA b 1) A 12 rfl rfl rfl rfl hP (M.sub (cn (cn (cn (cn (cn ns)))))) (λ_ M↦qb ka rfl rfl) λa A↦?_
   refine zd (by kernel_rfl) (jm (L' := (.row 86 2 (.slice (aO g35) 1 1) 1 (qt Rk.c [(Rk.mk t.toNat so6 ca6 us)]) :: .row 42 11 (.slice so6 us.length ca6) us.length (cellsOf us) :: .obj b (.cells #[.slice tz ts.length tc, .slice so39 ((rs ++ [(Rk.mk t.toNat so6 ca6 us)]).length) ca40] 73) :: .row 33 7 (.slice tz ts.length tc) ts.length (qt Ty.c ts) :: .row 86 2 (.slice so39 ((rs ++ [(Rk.mk t.toNat so6 ca6 us)]).length) ca40) ((rs ++ [(Rk.mk t.toNat so6 ca6 us)]).length) (qt Rk.c (rs ++ [(Rk.mk t.toNat so6 ca6 us)])) :: (others w12.drew w26 [.row 42 11 (.slice so6 us.length ca6) us.length (cellsOf us)] ++ Y))) A M 13 rfl rfl rfl (za rfl rfl rfl (by kernel_rfl) M 2 rfl rfl rfl) 2 rfl rfl rfl ?_)
   intro w41 M
   refine ⟨(M.sub (cn (cn (cn (cn (cn ns)))))), ?_⟩
   refine ze (by kernel_rfl) ?_
   refine hK14 _ _ (wsk fun K42 hK42 => wrl (sdm A λa A↦?_))
   refine sdo A (zh rfl) λa A↦?_
   refine sdo (v := pA b 1) A (qb ka rfl rfl) λa A↦?_
   refine sdo A (qh M qib rfl 2 rfl rfl) λa A↦?_
   refine sdo A (qn Tryz.underlying71 rfl) λa A↦?_
   refine sdo (v := iV ((((rs ++ [(Rk.mk t.toNat so6 ca6 us)]).length - 1 : Nat) : Int))) A (qg rfl rfl (fun w => (kn (ji (by omega) (by omega)) w).trans (by rw [show ((((rs ++ [(Rk.mk t.toNat so6 ca6 us)]).length : Nat) : Int) - 1 : Int) = (((rs ++ [(Rk.mk t.toNat so6 ca6 us)]).length - 1 : Nat) : Int) from by omega]))) λa A↦?_
   iterate 2 refine sda A λa A↦?_
   refine qa (hK42 _ _ (wp_ret (hret _ _ (en2 A rfl (qf rfl) (qf rfl) ?_))))
   replace M : Mg w0 w41 (.obj b (.cells #[.slice tz ts.length tc, .slice so39 ((rs ++ [(Rk.mk t.toNat so6 ca6 us)]).length) ca40] 73) :: .row 33 7 (.slice tz ts.length tc) ts.length (qt Ty.c ts) :: .row 86 2 (.slice so39 ((rs ++ [(Rk.mk t.toNat so6 ca6 us)]).length) ca40) ((rs ++ [(Rk.mk t.toNat so6 ca6 us)]).length) (qt Rk.c (rs ++ [(Rk.mk t.toNat so6 ca6 us)])) :: .row 42 11 (.slice so6 us.length ca6) us.length (cellsOf us) :: (others w12.drew w26 [.row 42 11 (.slice so6 us.length ca6) us.length (cellsOf us)] ++ Y)) := ((((M.bring 1 rfl rfl).bring 4 rfl rfl).bring 4 rfl rfl).bring 4 rfl rfl).sub (cc (cc (cc (cc (cn (.refl _))))))
   exact ⟨us, so6, ca6, so39, ca40, _, by rw [show (rs ++ [(Rk.mk t.toNat so6 ca6 us)]).length - 1 = rs.length by omega], ⟨htr, hLu, qad⟩, M⟩
section
variable {P : Program} {w0 w : World} {L : List Ck} {l : List (Nat × Value)} {dst : Option Tmp} {ty : TypeId} {pos : String} {after : Array Edge} {guard : Option (Nat × Bool)} {v : Value} {ops : List Oper} {Q : Exit → Act → World → Prop} {a : Act} {n : Nat} {o : Oper} {S : World → Prop} {md : Region.Mode} {fuel : Nat} {listed : Array Bool}
theorem qwa (M : Mg w0 w L) (k : Nat) {e : TypeId} {sz n cap : Nat} {so : Option Addr} {xs : List Value} (hk : L[k]? = some (.row e sz (.slice so n cap) n xs)) (hn : 0 < n) : ∃ g, so = some ⟨g, 0, none⟩ := by
 rcases (M.has k hk).2 with ⟨_, h0⟩ | ⟨g, cap', cur, he, _⟩
 ·
  omega
 ·
  cases he; exact ⟨g, rfl⟩
theorem ud {t e : TypeId} {sz : Nat} (hu : P.underlying t = some (.slice e)) (he : (P.info? e).map (·.size) = some sz) {x i : Operand} {so : Option Addr} {g n c k : Nat} {z : Int} (hx : ev l x = some (.slice so n c)) (hi : ev l i = some (iV z)) (hz : z = (k : Nat)) (hso : so = some ⟨g, 0, none⟩) (hk : k < n) : Does P l ⟨dst, .indexAddr t x i, ty, pos, after, guard⟩ w (pA g (k * sz)) w := by
 subst hso
 exact xp hu he hx hi hz hk
theorem qoe {t : TypeId} {x y : Operand} {g q : Nat} {u : Value} {cs : List Value} {so : Option Addr} (hso : so = some ⟨g, 0, none⟩) (hx : ev l x = some (pA g q)) (hy : ev l y = some u) (hc : u.cells = cs.toArray) (hn : (P.info? t).map (·.size) = some cs.length) (M : Mg w0 w L) (k : Nat) {e : TypeId} {sz m cap : Nat} {xs : List Value} (hk0 : L[k]? = some (.row e sz (.slice so m cap) m xs)) (hl : q + cs.length ≤ m * sz) (h1 : cs.all Value.oneCell' = true) : Sets P l ⟨dst, .store t x y, ty, pos, after, guard⟩ w (w.setCells g q cs) := by
 subst hso
 exact qfe hx hy hc hn M k hk0 hl h1
theorem zpj (A : Sl a n l) (M : Mg w0 w L) (i : Nat) (hi : ops[i]? = some o) (hg : zr l ops o = true) (hdst : o.dst = none) {g q m cap : Nat} {cs xs us : List Value} {e : TypeId} {sz : Nat} {so : Option Addr} (he : Sets P l o w (w.setCells g q cs)) (hso : so = some ⟨g, 0, none⟩) (k : Nat) (hk0 : L[k]? = some (.row e sz (.slice so m cap) m xs)) (hus : over xs q cs = us) {L' : List Ck} (hL : L.set k (.row e sz (.slice so m cap) m us) = L')
  (hk : ∀ w', Mg w0 w' L' → S w' ∧ wpAnyH P md ops.toArray Q S fuel (listed.setIfInBounds i true) a w') : wpOp P ops.toArray Q i (fun a' w' => S w' ∧ wpAnyH P md ops.toArray Q S fuel (listed.setIfInBounds i true) a' w') a w := by
 subst hso
 exact zja A M i hi hg hdst he k hk0 hus hL hk
end
set_option maxHeartbeats 2000000 in
theorem zyh {w0 w : World} {b tc rc : Nat} {tz ro : Option Addr} {ts : List Ty} {rs : List Rk} {Y : List Ck} (hY : jd Y) (hW : WS (ts.map Ty.k) (rs.map Rk.k)) {x : Rk} (hsr : ∀ w1, Mg w0 w1 (.obj b (.cells (sC tz tc ts ro rc rs).toArray 73) :: .row 33 7 (.slice tz ts.length tc) ts.length (qt Ty.c ts) :: .row 86 2 (.slice ro rs.length rc) rs.length (qt Rk.c rs) :: .row 42 11 (.slice x.vo x.vs.length x.vc) x.vs.length (cellsOf x.vs) :: Y) → SR w1 b tz tc ts ro rc rs) (hM0 : Mg w0 w (.obj b (.cells (sC tz tc ts ro rc rs).toArray 73) :: .row 33 7 (.slice tz ts.length tc) ts.length (qt Ty.c ts) :: .row 86 2 (.slice ro rs.length rc) rs.length (qt Rk.c rs) :: .row 42 11 (.slice x.vo x.vs.length x.vc) x.vs.length (cellsOf x.vs) :: Y)) {v : Dt} (hv : ∀ w1, Mg w0 w1 Y → v.rd w1) (hvb : v.tr.bulk ≤ 1000000000) (hT : ∀ w1, Mg w0 w1 Y → Tabs8 w1) {r t i : Int} (hx : rs[r.toNat]? = some x) (hpl0 : (plS (ts.map Ty.k) (rs.map Rk.k) r t i).2 = 0) (hso : jh zx v.tr = true) (hmu : ((((ts.map Ty.k)[t.toNat]?).map fun k => (k.ms[i.toNat]?).getD false).getD false) = true) : Calls Tryz.prog 16 #[pA b 0, iV r, iV t, iV i, .agg (v.d.cells v.ts.length).toArray] w fun e w' => ∃ (v2 : Dt) (F : List Ck), e = .returned (iV 0) ∧ (v2.tr = v.tr ∧ Lives F v2 ∧ jd F) ∧ Mg w0 w' (.obj b (.cells (sC tz tc ts ro rc rs).toArray 73) :: .row 33 7 (.slice tz ts.length tc) ts.length (qt Ty.c ts) :: .row 86 2 (.slice ro rs.length rc) rs.length (qt Rk.c rs) :: .row 42 11 (.slice x.vo x.vs.length x.vc) x.vs.length (cellsOf (x.vs.set ((plS (ts.map Ty.k) (rs.map Rk.k) r t i).1.toNat) v2)) :: (F ++ Y)) := by
 have hkl := hW.kl
 have hrl := hW.rl
 rw [List.length_map] at hkl hrl
 obtain ⟨x9, k9, hx9, hk9, p1, p2, p3, p4, p5, p6, p7, p8, p9, p10⟩ := qri hW hpl0
 rw [List.length_map] at p2 p4
 obtain rfl : x9 = x.k := Option.some.inj (hx9.symm.trans (xg hx))
 rw [show x.k.2.length = x.vs.length from List.length_map _] at p9 p10
 obtain ⟨gx, hgx⟩ := qwa hM0 3 rfl (show 0 < x.vs.length by omega)
 have M : Mg w0 w (.obj b (.cells (sC tz tc ts ro rc rs).toArray 73) :: .row 33 7 (.slice tz ts.length tc) ts.length (qt Ty.c ts) :: .row 86 2 (.slice ro rs.length rc) rs.length (qt Rk.c rs) :: .row 42 11 (.slice x.vo x.vs.length x.vc) x.vs.length (cellsOf x.vs) :: Y) := hM0
 refine qs (l := [(0, pA b 0), (1, iV r), (2, iV t), (3, iV i), (4, .agg (v.d.cells v.ts.length).toArray)]) Tryz.func16 rfl Tryz.ntmps16 rfl rfl ?_
 intro Q hret hnorm hP a A
 refine wsk fun K1 hK1 => wrl (zy (vs := (v.d.cells v.ts.length)) (t := 42) A M rfl rfl rfl pg (zf rfl rfl) (by decide) ?_)
 intro g2 w3 M a A
 refine sda A λa A↦?_
 refine qa (hK1 _ _ (wsk fun K4 hK4 => wrl ?_))
 iterate 4 refine sdm A λa A↦?_
 refine gcl A M (ef rfl rfl) ((hpl0 ▸ ut (hsr _ ((M.dropn 1))) hW)) fun w6 hb5 M a A => ?_
 refine sdm A λa A↦?_
 iterate 2 refine sdo A (zb (vs := [iV ((plS (ts.map Ty.k) (rs.map Rk.k) r t i).1), iV 0]) rfl rfl) λa A↦?_
 iterate 2 refine sda A λa A↦?_
 refine qa (hK4 _ _ (wsk fun K7 hK7 => wp_block (wsk fun K8 hK8 => wrl (sdm A λa A↦?_))))
 refine sdo (v := bV false) A (qg rfl rfl (fun w => by kernel_rfl)) λa A↦?_
 refine sda A λa A↦?_
 refine qa (hK8 _ _ (wp_cond_false (A.ev rfl) ?_))
 refine wsk fun K9 hK9 => wrl (sdo A (qz M xz rfl 0 rfl (cs := (v.d.cells v.ts.length)) rfl rfl) λa A↦?_)
 refine gcl A M (ef rfl rfl) ((hso ▸ sound_any (t := v) (hv _ (M.dropn 5)) (hT _ (M.dropn 5)))) fun w11 hb10 M a A => ?_
 refine sdo (v := bV false) A (zi rfl zm) λa A↦?_
 refine sda A λa A↦?_
 refine qa (hK9 _ _ (wp_cond_false (A.ev rfl) ?_))
 refine wsk fun K12 hK12 => wrl (sdm A λa A↦?_)
 refine sdo A (zh rfl) λa A↦?_
 refine sdo (v := pA b 0) A (qb jw rfl rfl) λa A↦?_
 refine sdo A (qh M xn rfl 1 rfl rfl) λa A↦?_
 refine sdm A λa A↦?_
 obtain ⟨ty13, bt14, ot15, it16, mt17, rt18, lt19, Ht20⟩ := ((hsr _ ((M.dropn 1)))).T.at_ (i := t.toNat) (by omega)
 refine sdo (v := pA bt14 (ot15 + t.toNat * 7)) A (qx (k := t.toNat) Tryz.underlying26 (by kernel_rfl) rfl rfl (by first | rfl | omega) lt19 (by omega)) λa A↦?_
 refine sdo (v := pA bt14 (ot15 + t.toNat * 7 + 3)) A (qb kk rfl rfl) λa A↦?_
 refine sdo A (qgi (j := 3) qmd (by decide) M 2 rfl it16 lt19 rfl qic rfl (by omega)) λa A↦?_
 refine sdm A λa A↦?_
 have hml := hW.ml _ (List.mem_of_getElem? (zn it16))
 rw [show ty13.k.fs.length = ty13.fs.length from rfl, show ty13.k.ms.length = ty13.ms.length from rfl] at hml
 obtain rfl : k9 = ty13.k := Option.some.inj (hk9.symm.trans (zn it16))
 rw [show ty13.k.fs.length = ty13.fs.length from rfl] at p6
 obtain ⟨bx21, ox22, sx23, hs24, hc25, hi26⟩ := E.Rl.at_ rt18.m (i := i.toNat) (by omega)
 rw [hk9] at hmu
 replace hmu : (ty13.ms[i.toNat]?).getD false = true := hmu
 rw [hi26] at hmu
 obtain rfl : sx23 = true := hmu
 refine sdo (v := pA bx21 (ox22 + i.toNat)) A (zk (k := i.toNat) Tryz.underlying31 (by kernel_rfl) rfl rfl (by omega) hs24 (by omega)) λa A↦?_
 refine sdo A (qfj hc25 o94 rfl) λa A↦?_
 refine sdo (v := bV false) A (zi rfl zm) λa A↦?_
 refine sda A λa A↦?_
 refine qa (hK12 _ _ (wp_cond_false (A.ev rfl) ?_))
 refine wp_skip (hK7 _ _ (wsk fun K27 hK27 => zp (S := fun w1 => Mg w0 w1 (.obj g2 (.cells (v.d.cells v.ts.length).toArray 42) :: .obj b (.cells (sC tz tc ts ro rc rs).toArray 73) :: .row 86 2 (.slice ro rs.length rc) rs.length (qt Rk.c rs) :: [])) (by kernel_rfl) ?_))
 replace M := M.drew
 refine qe A 0 rfl rfl rfl rfl hP (M.sub (cc (cc (cn (cc (cn ns)))))) (λ_ M↦ql rfl) λa A↦?_
 refine qe A 1 rfl rfl rfl rfl hP (M.sub (cc (cc (cn (cc (cn ns)))))) (λ_ M↦zh rfl) λa A↦?_
 refine qe (v := pA b 1) A 2 rfl rfl rfl rfl hP (M.sub (cc (cc (cn (cc (cn ns)))))) (λ_ M↦qb ka rfl rfl) λa A↦?_
 refine qe A 3 rfl rfl rfl rfl hP (M.sub (cc (cc (cn (cc (cn ns)))))) (λ_ M↦qh M qib rfl 1 rfl rfl) λa A↦?_
 refine qe A 4 rfl rfl rfl rfl hP (M.sub (cc (cc (cn (cc (cn ns)))))) (λ_ M↦ql rfl) λa A↦?_
 obtain ⟨rk28, br29, or30, ir31, mr32, rr33, lr34, Hr35⟩ := ((hsr _ ((M.dropn 1)))).R.at_ (i := r.toNat) (by omega)
 obtain rfl : x = rk28 := Option.some.inj (hx.symm.trans ir31)
 refine qe (v := pA br29 (or30 + r.toNat * 2)) A 5 rfl rfl rfl rfl hP (M.sub (cc (cc (cn (cc (cn ns)))))) (λ_ M↦qx (k := r.toNat) Tryz.underlying71 (by kernel_rfl) rfl rfl (by first | rfl | omega) lr34 (by omega)) λa A↦?_
 refine qe (v := pA br29 (or30 + r.toNat * 2 + 1)) A 6 rfl rfl rfl rfl hP (M.sub (cc (cc (cn (cc (cn ns)))))) (λ_ M↦qb zog rfl rfl) λa A↦?_
 refine qe A 7 rfl rfl rfl rfl hP (M.sub (cc (cc (cn (cc (cn ns)))))) (λ_ M↦qgi (j := 1) uz (by decide) M 2 rfl ir31 lr34 rfl kw rfl (by omega)) λa A↦?_
 refine qe A 8 rfl rfl rfl rfl hP (M.sub (cc (cc (cn (cc (cn ns)))))) (λ_ M↦ql rfl) λa A↦?_
 refine qe A 9 rfl rfl rfl rfl hP (M.sub (cc (cc (cn (cc (cn ns)))))) (λ_ M↦qz M xz rfl 0 rfl (cs := (v.d.cells v.ts.length)) rfl rfl) λa A↦?_
 refine zd (by kernel_rfl) (jf A 10 rfl rfl rfl rfl (zj rfl rfl (fun w => by kernel_rfl)) (qac v (hv _ (M.dropn 5)) hvb) ?_)
 rintro _ w37 ⟨v2, rfl, ⟨hr2, ho2, ht2⟩, hb36⟩
 have hL2 := qmb hr2 ho2
 replace M : Mg w0 w37 (.obj g2 (.cells (v.d.cells v.ts.length).toArray 42) :: .obj b (.cells (sC tz tc ts ro rc rs).toArray 73) :: .row 33 7 (.slice tz ts.length tc) ts.length (qt Ty.c ts) :: .row 86 2 (.slice ro rs.length rc) rs.length (qt Rk.c rs) :: .row 42 11 (.slice x.vo x.vs.length x.vc) x.vs.length (cellsOf x.vs) :: (made w11.drew w37 ++ Y)) := M.freezeAt 5 (qi (by simp) (qi (by simp) (qi (by simp) (qi (by simp) (qi (by simp) hY))))) hb36
 refine ⟨_, rfl, (M.sub (cc (cc (cn (cc (cn ns)))))), ?_⟩
 intro a A
 refine qe (v := pA gx ((plS (ts.map Ty.k) (rs.map Rk.k) r t i).1.toNat * 11)) A 11 rfl rfl rfl rfl hP (M.sub (cc (cc (cn (cc (cn ns)))))) (λ_ M↦ud (k := (plS (ts.map Ty.k) (rs.map Rk.k) r t i).1.toNat) Tryz.underlying34 (by kernel_rfl) rfl rfl (by omega) hgx (by omega)) λa A↦?_
 refine zd (by kernel_rfl) (zpj (cs := v2.d.cells v2.ts.length) (L' := (.obj g2 (.cells (v.d.cells v.ts.length).toArray 42) :: .obj b (.cells (sC tz tc ts ro rc rs).toArray 73) :: .row 33 7 (.slice tz ts.length tc) ts.length (qt Ty.c ts) :: .row 86 2 (.slice ro rs.length rc) rs.length (qt Rk.c rs) :: .row 42 11 (.slice x.vo x.vs.length x.vc) x.vs.length (cellsOf (x.vs.set ((plS (ts.map Ty.k) (rs.map Rk.k) r t i).1.toNat) v2)) :: (made w11.drew w37 ++ Y))) A M 12 rfl rfl rfl (qoe hgx rfl rfl rfl (by kernel_rfl) M 4 rfl (by show _ + 11 ≤ _; omega) (qcf v2)) hgx 4 rfl (qlj (by omega) rfl) rfl ?_)
 intro w38 M
 refine ⟨(M.sub (cc (cc (cn (cc (cn ns)))))), ?_⟩
 refine ze (by kernel_rfl) ?_
 refine hK27 _ _ (wsk fun K39 hK39 => wrl (sda A λa A↦?_))
 refine qa (hK39 _ _ (wp_ret (hret _ _ (en1 A rfl (qf rfl) ?_))))
 replace M : Mg w0 w38 (.obj b (.cells (sC tz tc ts ro rc rs).toArray 73) :: .row 33 7 (.slice tz ts.length tc) ts.length (qt Ty.c ts) :: .row 86 2 (.slice ro rs.length rc) rs.length (qt Rk.c rs) :: .row 42 11 (.slice x.vo x.vs.length x.vc) x.vs.length (cellsOf (x.vs.set ((plS (ts.map Ty.k) (rs.map Rk.k) r t i).1.toNat) v2)) :: (made w11.drew w37 ++ Y)) := ((((M.bring 4 rfl rfl).bring 4 rfl rfl).bring 4 rfl rfl).bring 4 rfl rfl).sub (cc (cc (cc (cc (cn (.refl _))))))
 exact ⟨v2, _, rfl, ⟨ht2, hL2, qxi⟩, M⟩
set_option maxHeartbeats 2000000 in
theorem zva {w : World} {b tc rc : Nat} {tz ro : Option Addr} {ts : List Ty} {rs : List Rk} (V : SR w b tz tc ts ro rc rs) (hW : WS (ts.map Ty.k) (rs.map Rk.k)) {u : Ty} (hU : TyR w u) (hul : u.fs.length ≤ 2000000) (hum : u.ms.length ≤ 2000000) (huz : ∀ s ∈ u.fs, s.size ≤ 281474976710656) (hno : (tyS (ts.map Ty.k) u.k).2.2 = false) : Calls Tryz.prog 8 #[pA b 0, .agg u.c.toArray] w fun e w' => e = .returned (.tuple #[iV (tyS (ts.map Ty.k) u.k).1, iV (tyS (ts.map Ty.k) u.k).2.1]) ∧ Below w.heap.size w w' := by
 have hkl := hW.kl
 have hrl := hW.rl
 rw [List.length_map] at hkl hrl
 have M : Mg w w ([]) := Mg.start w
 refine qs (l := [(0, pA b 0), (1, .agg u.c.toArray)]) Tryz.func8 rfl Tryz.ntmps8 rfl rfl ?_
 intro Q hret hnorm hP a A
 refine wsk fun K1 hK1 => wrl (zy (vs := u.c) (t := 33) A M rfl rfl rfl pg (zf rfl rfl) (by decide) ?_)
 intro g2 w3 M a A
 iterate 2 refine sda A λa A↦?_
 refine qa (hK1 _ _ (wsk fun K4 hK4 => wsk fun K5 hK5 => wrl (sdm A λa A↦?_)))
 refine sdo (v := bV false) A (qg rfl rfl (fun w => by kernel_rfl)) λa A↦?_
 iterate 2 refine sdm A λa A↦?_
 refine sdo A (qz M qaj rfl 0 rfl (cs := u.c) rfl rfl) λa A↦?_
 rcases tf (gdB ts.length u.k) with hb6 | hb6
 ·
  refine gcl A M (ef rfl rfl) (qig (V.below M.bel) hW (hU.below M.bel) hul huz hb6) fun w8 hb7 M a A => ?_
  refine sdo (v := bV false) A (zi rfl zm) λa A↦?_
  refine sdk (v := bV false) A λa A↦?_
  refine qa (hK5 _ _ (wp_cond_false (A.ev rfl) ?_))
  refine wp_skip (hK4 _ _ (wsk fun K9 hK9 => wsk fun K10 hK10 => wrl (sdm A λa A↦?_)))
  refine sdo (v := pA g2 6) A (qb yu rfl rfl) λa A↦?_
  refine sdo A (qh M o99 rfl 0 rfl rfl) λa A↦?_
  refine gcl A M (ef rfl rfl) (qja (V.below M.bel) hW) fun w12 hb11 M a A => ?_
  refine sda A λa A↦?_
  refine qa (hK10 _ _ (wsk fun K13 hK13 => wrl (sdm A λa A↦?_)))
  rcases tf (decide (0 ≤ uix (ts.map Ty.k) u.ui)) with hb14 | hb14
  ·
   have hb14' := of_decide_eq_true hb14
   refine sdc A zl hb14 λa A↦?_
   refine qa (hK13 _ _ (wp_cond_true (A.ev rfl) ?_))
   refine wsk fun K15 hK15 => wrl ?_
   iterate 2 refine sdm A λa A↦?_
   refine sdo A (qz M qaj rfl 0 rfl (cs := u.c) rfl rfl) λa A↦?_
   obtain ⟨y, hy⟩ : ∃ y, ts[(uix (ts.map Ty.k) u.ui).toNat]? = some y := ⟨_, List.getElem?_eq_getElem (show (uix (ts.map Ty.k) u.ui).toNat < ts.length by have := zoe (ts.map Ty.k) u.ui; rw [List.length_map] at this; omega)⟩
   refine gcl A M (ef rfl rfl) (zki (V.below M.bel) hW (hU.below M.bel) hul hum (by omega) (by have := zoe (ts.map Ty.k) u.ui; rw [List.length_map] at this; omega) hy) fun w17 hb16 M a A => ?_
   iterate 2 refine sdo A (zb (vs := [iV ((if xm y.k u.k = true then uix (ts.map Ty.k) u.ui else 0)), iV ((if xm y.k u.k = true then 0 else 8))]) rfl rfl) λa A↦?_
   iterate 2 refine sda A λa A↦?_
   refine qa (hK15 _ _ (wp_ret (hret _ _ (en2 A rfl (qf rfl) (qf rfl) ?_))))
   refine ⟨?_, M.bel⟩
   rw [qug (show gdB (ts.map Ty.k).length u.k = true by rw [List.length_map]; exact hb6) (show 0 ≤ uix (ts.map Ty.k) u.k.ui by show 0 ≤ uix (ts.map Ty.k) u.ui; omega) (zn hy)]
   rcases tf (xm y.k u.k) with hq | hq
   ·
    rw [if_pos hq, if_pos hq, if_pos hq]; rfl
   ·
    rw [if_neg (by rw [hq]; decide), if_neg (by rw [hq]; decide), if_neg (by rw [hq]; decide)]
  ·
   have hb14' := of_decide_eq_false hb14
   refine sdc A zl hb14 λa A↦?_
   refine qa (hK13 _ _ (wp_cond_false (A.ev rfl) ?_))
   refine wp_skip (hK9 _ _ (wsk fun K18 hK18 => wp_block (wsk fun K19 hK19 => ?_)))
   obtain ⟨hg1, hg2, hg3, hg4⟩ := zoc hb6
   rw [show u.k.par = u.par from rfl] at hg3 hg4
   have hc16 := hW.cnt16 (t := u.par) (by rw [List.length_map]; exact hg4)
   refine zp (S := fun w1 => Mg w w1 (.obj g2 (.cells u.c.toArray 33) :: [])) (by kernel_rfl) ?_
   replace M := M.drew
   refine qe (v := pA g2 1) A 0 rfl rfl rfl rfl hP (M.sub (cc ns)) (λ_ M↦qb ju rfl rfl) λa A↦?_
   refine qe A 1 rfl rfl rfl rfl hP (M.sub (cc ns)) (λ_ M↦qh M o93 rfl 0 rfl rfl) λa A↦?_
   rcases tf ((u.par != -1)) with hb20 | hb20
   ·
    have hb20' := bne_iff_ne.1 hb20
    refine qe (v := bV true) A 2 rfl rfl rfl rfl hP (M.sub (cc ns)) (λ_ M↦qg rfl rfl (fun w => (zg w).trans (by rw [hb20]))) λa A↦?_
    refine qe A 3 rfl rfl rfl rfl hP (M.sub (cc ns)) (λ_ M↦ql rfl) λa A↦?_
    refine qe A 4 rfl rfl rfl rfl hP (M.sub (cc ns)) (λ_ M↦ql rfl) λa A↦?_
    refine qe A 5 rfl rfl rfl rfl hP (M.sub (cc ns)) (λ_ M↦zh rfl) λa A↦?_
    refine qe (v := pA b 0) A 6 rfl rfl rfl rfl hP (M.sub (cc ns)) (λ_ M↦qb jw rfl rfl) λa A↦?_
    refine qe A 7 rfl rfl rfl rfl hP (M.sub (cc ns)) (λ_ M↦E.m_loadX M V.c0 xn rfl) λa A↦?_
    refine qe (v := pA g2 1) A 8 rfl rfl rfl rfl hP (M.sub (cc ns)) (λ_ M↦qb ju rfl rfl) λa A↦?_
    refine qe A 9 rfl rfl rfl rfl hP (M.sub (cc ns)) (λ_ M↦qh M o93 rfl 0 rfl rfl) λa A↦?_
    obtain ⟨ty21, bt22, ot23, it24, mt25, rt26, lt27, Ht28⟩ := V.T.at_ (i := (u.par).toNat) (by omega)
    refine qe (v := pA bt22 (ot23 + (u.par).toNat * 7)) A 10 rfl rfl rfl rfl hP (M.sub (cc ns)) (λ_ M↦qx (k := (u.par).toNat) Tryz.underlying26 (by kernel_rfl) rfl rfl (by first | rfl | omega) lt27 (by omega)) λa A↦?_
    refine qe (v := pA bt22 (ot23 + (u.par).toNat * 7 + 4)) A 11 rfl rfl rfl rfl hP (M.sub (cc ns)) (λ_ M↦qb qbf rfl rfl) λa A↦?_
    refine qe A 12 rfl rfl rfl rfl hP (M.sub (cc ns)) (λ_ M↦jj (j := 4) M Ht28 o94 rfl rfl rfl) λa A↦?_
    refine qe (v := bV ty21.sl) A 13 rfl rfl rfl rfl hP (M.sub (cc ns)) (λ_ M↦jc rfl rfl rfl rfl) λa A↦?_
    refine qe A 14 rfl rfl rfl rfl hP (M.sub (cc ns)) (λ_ M↦qp rfl) λa A↦?_
    refine ze (by kernel_rfl) ?_
    refine hK19 _ _ ?_
    refine wp_cond_split (t := ty21.sl) (A.ev rfl) (fun hc29 => ?_) (fun hc29 => ?_)
    ·
     refine wsk fun K30 hK30 => wrl ?_
     iterate 2 refine sda A λa A↦?_
     refine qa (hK30 _ _ (wp_ret (hret _ _ (en2 A rfl (qf rfl) (qf rfl) ?_))))
     exact ⟨by rw [qnb (show gdB (ts.map Ty.k).length u.k = true by rw [List.length_map]; exact hb6) (show ¬ 0 ≤ uix (ts.map Ty.k) u.k.ui by show ¬ 0 ≤ uix (ts.map Ty.k) u.ui; omega) (show slP (ts.map Ty.k) u.k.par = true from ((qbe (show 0 ≤ u.par by omega) (zn it24)).trans hc29))], M.bel⟩
    ·
     refine wsk fun K31 hK31 => zp (S := fun w1 => Mg w w1 (.obj g2 (.cells u.c.toArray 33) :: [])) (by kernel_rfl) ?_
     replace M := M.drew
     refine qe A 0 rfl rfl rfl rfl hP (M.sub (cc ns)) (λ_ M↦ql rfl) λa A↦?_
     refine qe (v := pA g2 1) A 1 rfl rfl rfl rfl hP (M.sub (cc ns)) (λ_ M↦qb ju rfl rfl) λa A↦?_
     refine qe A 2 rfl rfl rfl rfl hP (M.sub (cc ns)) (λ_ M↦qh M o93 rfl 0 rfl rfl) λa A↦?_
     refine qe (v := pA g2 2) A 4 rfl rfl rfl rfl hP (M.sub (cc ns)) (λ_ M↦qb xu rfl rfl) λa A↦?_
     refine qe A 5 rfl rfl rfl rfl hP (M.sub (cc ns)) (λ_ M↦qh M qai rfl 0 rfl rfl) λa A↦?_
     refine qe (v := iV (((u.fs.length : Nat) : Int))) A 6 rfl rfl rfl rfl hP (M.sub (cc ns)) (λ_ M↦qn Tryz.underlying30 rfl) λa A↦?_
     refine zd (by kernel_rfl) (jf A 3 rfl rfl rfl rfl (zj rfl rfl (fun w => by kernel_rfl)) (vq (V.below M.bel) hW (by omega) (by omega)) ?_)
     rintro _ w33 ⟨rfl, hb32⟩
     replace M := M.call hb32
     refine ⟨_, rfl, (M.sub (cc ns)), ?_⟩
     intro a A
     refine qe (v := iV (((cnt (ts.map Ty.k) u.par + u.fs.length : Nat) : Int))) A 7 rfl rfl rfl rfl hP (M.sub (cc ns)) (λ_ M↦qg rfl rfl (fun w => (ja (ji (by omega) (by omega)) w).trans (by rw [show (((cnt (ts.map Ty.k) u.par : Nat) : Int) + ((u.fs.length : Nat) : Int) : Int) = ((cnt (ts.map Ty.k) u.par + u.fs.length : Nat) : Int) from by omega]))) λa A↦?_
     rcases tf (decide (16 < ((cnt (ts.map Ty.k) u.par + u.fs.length : Nat) : Int))) with hb34 | hb34
     ·
      have hb34' := of_decide_eq_true hb34
      refine qe (v := bV true) A 8 rfl rfl rfl rfl hP (M.sub (cc ns)) (λ_ M↦qg rfl rfl (fun w => (jk w).trans (by rw [hb34]))) λa A↦?_
      refine qe A 9 rfl rfl rfl rfl hP (M.sub (cc ns)) (λ_ M↦ql rfl) λa A↦?_
      refine je A 10 rfl rfl rfl rfl hP (M.sub (cc ns)) λa A↦?_
      refine je A 11 rfl rfl rfl rfl hP (M.sub (cc ns)) λa A↦?_
      refine je A 12 rfl rfl rfl rfl hP (M.sub (cc ns)) λa A↦?_
      refine je A 13 rfl rfl rfl rfl hP (M.sub (cc ns)) λa A↦?_
      refine je A 14 rfl rfl rfl rfl hP (M.sub (cc ns)) λa A↦?_
      refine je A 15 rfl rfl rfl rfl hP (M.sub (cc ns)) λa A↦?_
      refine qe (v := bV true) A 16 rfl rfl rfl rfl hP (M.sub (cc ns)) (λ_ M↦jc rfl rfl rfl rfl) λa A↦?_
      refine qe A 17 rfl rfl rfl rfl hP (M.sub (cc ns)) (λ_ M↦qp rfl) λa A↦?_
      refine ze (by kernel_rfl) ?_
      refine hK31 _ _ (wp_cond_true (A.ev rfl) ?_)
      refine wsk fun K35 hK35 => wrl ?_
      iterate 2 refine sda A λa A↦?_
      refine qa (hK35 _ _ (wp_ret (hret _ _ (en2 A rfl (qf rfl) (qf rfl) ?_))))
      exact ⟨by rw [vn (show gdB (ts.map Ty.k).length u.k = true by rw [List.length_map]; exact hb6) (show ¬ 0 ≤ uix (ts.map Ty.k) u.k.ui by show ¬ 0 ≤ uix (ts.map Ty.k) u.ui; omega) (show slP (ts.map Ty.k) u.k.par = false from ((qbe (show 0 ≤ u.par by omega) (zn it24)).trans hc29)) (show ¬ (cnt (ts.map Ty.k) u.par + u.fs.length ≤ 16 ∧ (ts.map Ty.k).length < 4096) by rw [List.length_map]; omega)], M.bel⟩
     ·
      have hb34' := of_decide_eq_false hb34
      refine qe (v := bV false) A 8 rfl rfl rfl rfl hP (M.sub (cc ns)) (λ_ M↦qg rfl rfl (fun w => (jk w).trans (by rw [hb34]))) λa A↦?_
      refine qe A 9 rfl rfl rfl rfl hP (M.sub (cc ns)) (λ_ M↦ql rfl) λa A↦?_
      refine qe A 10 rfl rfl rfl rfl hP (M.sub (cc ns)) (λ_ M↦ql rfl) λa A↦?_
      refine qe A 11 rfl rfl rfl rfl hP (M.sub (cc ns)) (λ_ M↦zh rfl) λa A↦?_
      refine qe (v := pA b 0) A 12 rfl rfl rfl rfl hP (M.sub (cc ns)) (λ_ M↦qb jw rfl rfl) λa A↦?_
      refine qe A 13 rfl rfl rfl rfl hP (M.sub (cc ns)) (λ_ M↦E.m_loadX M V.c0 xn rfl) λa A↦?_
      refine qe (v := iV (((ts.length : Nat) : Int))) A 14 rfl rfl rfl rfl hP (M.sub (cc ns)) (λ_ M↦qn Tryz.underlying26 rfl) λa A↦?_
      rcases tf (decide (4096 ≤ ((ts.length : Nat) : Int))) with hb36 | hb36
      ·
       have hb36' := of_decide_eq_true hb36
       refine qe (v := bV true) A 15 rfl rfl rfl rfl hP (M.sub (cc ns)) (λ_ M↦qg rfl rfl (fun w => (zl w).trans (by rw [hb36]))) λa A↦?_
       refine qe (v := bV true) A 16 rfl rfl rfl rfl hP (M.sub (cc ns)) (λ_ M↦jc rfl rfl rfl rfl) λa A↦?_
       refine qe A 17 rfl rfl rfl rfl hP (M.sub (cc ns)) (λ_ M↦qp rfl) λa A↦?_
       refine ze (by kernel_rfl) ?_
       refine hK31 _ _ (wp_cond_true (A.ev rfl) ?_)
       refine wsk fun K37 hK37 => wrl ?_
       iterate 2 refine sda A λa A↦?_
       refine qa (hK37 _ _ (wp_ret (hret _ _ (en2 A rfl (qf rfl) (qf rfl) ?_))))
       exact ⟨by rw [vn (show gdB (ts.map Ty.k).length u.k = true by rw [List.length_map]; exact hb6) (show ¬ 0 ≤ uix (ts.map Ty.k) u.k.ui by show ¬ 0 ≤ uix (ts.map Ty.k) u.ui; omega) (show slP (ts.map Ty.k) u.k.par = false from ((qbe (show 0 ≤ u.par by omega) (zn it24)).trans hc29)) (show ¬ (cnt (ts.map Ty.k) u.par + u.fs.length ≤ 16 ∧ (ts.map Ty.k).length < 4096) by rw [List.length_map]; omega)], M.bel⟩
      ·
       have hb36' := of_decide_eq_false hb36
       refine qe (v := bV false) A 15 rfl rfl rfl rfl hP (M.sub (cc ns)) (λ_ M↦qg rfl rfl (fun w => (zl w).trans (by rw [hb36]))) λa A↦?_
       refine qe (v := bV false) A 16 rfl rfl rfl rfl hP (M.sub (cc ns)) (λ_ M↦jc rfl rfl rfl rfl) λa A↦?_
       refine qe A 17 rfl rfl rfl rfl hP (M.sub (cc ns)) (λ_ M↦qp rfl) λa A↦?_
       refine ze (by kernel_rfl) ?_
       refine hK31 _ _ (wp_cond_false (A.ev rfl) ?_)
       refine wp_skip (hK18 _ _ (wsk fun K38 hK38 => ?_))
       rw [qkd (show gdB (ts.map Ty.k).length u.k = true by rw [List.length_map]; exact hb6) (show ¬ 0 ≤ uix (ts.map Ty.k) u.k.ui by show ¬ 0 ≤ uix (ts.map Ty.k) u.ui; omega) (show slP (ts.map Ty.k) u.k.par = false from ((qbe (show 0 ≤ u.par by omega) (zn it24)).trans hc29)) (show cnt (ts.map Ty.k) u.par + u.fs.length ≤ 16 ∧ (ts.map Ty.k).length < 4096 by rw [List.length_map]; omega)] at hno
       exact absurd (show true = false from hno) (by decide)
   ·
    have hb20' := bne_eq_false_iff_eq.1 hb20
    refine qe (v := bV false) A 2 rfl rfl rfl rfl hP (M.sub (cc ns)) (λ_ M↦qg rfl rfl (fun w => (zg w).trans (by rw [hb20]))) λa A↦?_
    refine qe A 3 rfl rfl rfl rfl hP (M.sub (cc ns)) (λ_ M↦ql rfl) λa A↦?_
    refine je A 4 rfl rfl rfl rfl hP (M.sub (cc ns)) λa A↦?_
    refine je A 5 rfl rfl rfl rfl hP (M.sub (cc ns)) λa A↦?_
    refine je A 6 rfl rfl rfl rfl hP (M.sub (cc ns)) λa A↦?_
    refine je A 7 rfl rfl rfl rfl hP (M.sub (cc ns)) λa A↦?_
    refine je A 8 rfl rfl rfl rfl hP (M.sub (cc ns)) λa A↦?_
    refine je A 9 rfl rfl rfl rfl hP (M.sub (cc ns)) λa A↦?_
    refine je A 10 rfl rfl rfl rfl hP (M.sub (cc ns)) λa A↦?_
    refine je A 11 rfl rfl rfl rfl hP (M.sub (cc ns)) λa A↦?_
    refine je A 12 rfl rfl rfl rfl hP (M.sub (cc ns)) λa A↦?_
    refine qe (v := bV false) A 13 rfl rfl rfl rfl hP (M.sub (cc ns)) (λ_ M↦jc rfl rfl rfl rfl) λa A↦?_
    refine qe A 14 rfl rfl rfl rfl hP (M.sub (cc ns)) (λ_ M↦qp rfl) λa A↦?_
    refine ze (by kernel_rfl) ?_
    refine hK19 _ _ (wp_cond_false (A.ev rfl) ?_)
    refine wsk fun K39 hK39 => zp (S := fun w1 => Mg w w1 (.obj g2 (.cells u.c.toArray 33) :: [])) (by kernel_rfl) ?_
    replace M := M.drew
    refine qe A 0 rfl rfl rfl rfl hP (M.sub (cc ns)) (λ_ M↦ql rfl) λa A↦?_
    refine qe (v := pA g2 1) A 1 rfl rfl rfl rfl hP (M.sub (cc ns)) (λ_ M↦qb ju rfl rfl) λa A↦?_
    refine qe A 2 rfl rfl rfl rfl hP (M.sub (cc ns)) (λ_ M↦qh M o93 rfl 0 rfl rfl) λa A↦?_
    refine qe (v := pA g2 2) A 4 rfl rfl rfl rfl hP (M.sub (cc ns)) (λ_ M↦qb xu rfl rfl) λa A↦?_
    refine qe A 5 rfl rfl rfl rfl hP (M.sub (cc ns)) (λ_ M↦qh M qai rfl 0 rfl rfl) λa A↦?_
    refine qe (v := iV (((u.fs.length : Nat) : Int))) A 6 rfl rfl rfl rfl hP (M.sub (cc ns)) (λ_ M↦qn Tryz.underlying30 rfl) λa A↦?_
    refine zd (by kernel_rfl) (jf A 3 rfl rfl rfl rfl (zj rfl rfl (fun w => by kernel_rfl)) (vq (V.below M.bel) hW (by omega) (by omega)) ?_)
    rintro _ w41 ⟨rfl, hb40⟩
    replace M := M.call hb40
    refine ⟨_, rfl, (M.sub (cc ns)), ?_⟩
    intro a A
    refine qe (v := iV (((cnt (ts.map Ty.k) u.par + u.fs.length : Nat) : Int))) A 7 rfl rfl rfl rfl hP (M.sub (cc ns)) (λ_ M↦qg rfl rfl (fun w => (ja (ji (by omega) (by omega)) w).trans (by rw [show (((cnt (ts.map Ty.k) u.par : Nat) : Int) + ((u.fs.length : Nat) : Int) : Int) = ((cnt (ts.map Ty.k) u.par + u.fs.length : Nat) : Int) from by omega]))) λa A↦?_
    rcases tf (decide (16 < ((cnt (ts.map Ty.k) u.par + u.fs.length : Nat) : Int))) with hb42 | hb42
    ·
     have hb42' := of_decide_eq_true hb42
     refine qe (v := bV true) A 8 rfl rfl rfl rfl hP (M.sub (cc ns)) (λ_ M↦qg rfl rfl (fun w => (jk w).trans (by rw [hb42]))) λa A↦?_
     refine qe A 9 rfl rfl rfl rfl hP (M.sub (cc ns)) (λ_ M↦ql rfl) λa A↦?_
     refine je A 10 rfl rfl rfl rfl hP (M.sub (cc ns)) λa A↦?_
     refine je A 11 rfl rfl rfl rfl hP (M.sub (cc ns)) λa A↦?_
     refine je A 12 rfl rfl rfl rfl hP (M.sub (cc ns)) λa A↦?_
     refine je A 13 rfl rfl rfl rfl hP (M.sub (cc ns)) λa A↦?_
     refine je A 14 rfl rfl rfl rfl hP (M.sub (cc ns)) λa A↦?_
     refine je A 15 rfl rfl rfl rfl hP (M.sub (cc ns)) λa A↦?_
     refine qe (v := bV true) A 16 rfl rfl rfl rfl hP (M.sub (cc ns)) (λ_ M↦jc rfl rfl rfl rfl) λa A↦?_
     refine qe A 17 rfl rfl rfl rfl hP (M.sub (cc ns)) (λ_ M↦qp rfl) λa A↦?_
     refine ze (by kernel_rfl) ?_
     refine hK39 _ _ (wp_cond_true (A.ev rfl) ?_)
     refine wsk fun K43 hK43 => wrl ?_
     iterate 2 refine sda A λa A↦?_
     refine qa (hK43 _ _ (wp_ret (hret _ _ (en2 A rfl (qf rfl) (qf rfl) ?_))))
     exact ⟨by rw [vn (show gdB (ts.map Ty.k).length u.k = true by rw [List.length_map]; exact hb6) (show ¬ 0 ≤ uix (ts.map Ty.k) u.k.ui by show ¬ 0 ≤ uix (ts.map Ty.k) u.ui; omega) (show slP (ts.map Ty.k) u.k.par = false from (qgc (show u.par < 0 by omega))) (show ¬ (cnt (ts.map Ty.k) u.par + u.fs.length ≤ 16 ∧ (ts.map Ty.k).length < 4096) by rw [List.length_map]; omega)], M.bel⟩
    ·
     have hb42' := of_decide_eq_false hb42
     refine qe (v := bV false) A 8 rfl rfl rfl rfl hP (M.sub (cc ns)) (λ_ M↦qg rfl rfl (fun w => (jk w).trans (by rw [hb42]))) λa A↦?_
     refine qe A 9 rfl rfl rfl rfl hP (M.sub (cc ns)) (λ_ M↦ql rfl) λa A↦?_
     refine qe A 10 rfl rfl rfl rfl hP (M.sub (cc ns)) (λ_ M↦ql rfl) λa A↦?_
     refine qe A 11 rfl rfl rfl rfl hP (M.sub (cc ns)) (λ_ M↦zh rfl) λa A↦?_
     refine qe (v := pA b 0) A 12 rfl rfl rfl rfl hP (M.sub (cc ns)) (λ_ M↦qb jw rfl rfl) λa A↦?_
     refine qe A 13 rfl rfl rfl rfl hP (M.sub (cc ns)) (λ_ M↦E.m_loadX M V.c0 xn rfl) λa A↦?_
     refine qe (v := iV (((ts.length : Nat) : Int))) A 14 rfl rfl rfl rfl hP (M.sub (cc ns)) (λ_ M↦qn Tryz.underlying26 rfl) λa A↦?_
     rcases tf (decide (4096 ≤ ((ts.length : Nat) : Int))) with hb44 | hb44
     ·
      have hb44' := of_decide_eq_true hb44
      refine qe (v := bV true) A 15 rfl rfl rfl rfl hP (M.sub (cc ns)) (λ_ M↦qg rfl rfl (fun w => (zl w).trans (by rw [hb44]))) λa A↦?_
      refine qe (v := bV true) A 16 rfl rfl rfl rfl hP (M.sub (cc ns)) (λ_ M↦jc rfl rfl rfl rfl) λa A↦?_
      refine qe A 17 rfl rfl rfl rfl hP (M.sub (cc ns)) (λ_ M↦qp rfl) λa A↦?_
      refine ze (by kernel_rfl) ?_
      refine hK39 _ _ (wp_cond_true (A.ev rfl) ?_)
      refine wsk fun K45 hK45 => wrl ?_
      iterate 2 refine sda A λa A↦?_
      refine qa (hK45 _ _ (wp_ret (hret _ _ (en2 A rfl (qf rfl) (qf rfl) ?_))))
      exact ⟨by rw [vn (show gdB (ts.map Ty.k).length u.k = true by rw [List.length_map]; exact hb6) (show ¬ 0 ≤ uix (ts.map Ty.k) u.k.ui by show ¬ 0 ≤ uix (ts.map Ty.k) u.ui; omega) (show slP (ts.map Ty.k) u.k.par = false from (qgc (show u.par < 0 by omega))) (show ¬ (cnt (ts.map Ty.k) u.par + u.fs.length ≤ 16 ∧ (ts.map Ty.k).length < 4096) by rw [List.length_map]; omega)], M.bel⟩
     ·
      have hb44' := of_decide_eq_false hb44
      refine qe (v := bV false) A 15 rfl rfl rfl rfl hP (M.sub (cc ns)) (λ_ M↦qg rfl rfl (fun w => (zl w).trans (by rw [hb44]))) λa A↦?_
      refine qe (v := bV false) A 16 rfl rfl rfl rfl hP (M.sub (cc ns)) (λ_ M↦jc rfl rfl rfl rfl) λa A↦?_
      refine qe A 17 rfl rfl rfl rfl hP (M.sub (cc ns)) (λ_ M↦qp rfl) λa A↦?_
      refine ze (by kernel_rfl) ?_
      refine hK39 _ _ (wp_cond_false (A.ev rfl) ?_)
      refine wp_skip (hK18 _ _ (wsk fun K46 hK46 => ?_))
      rw [qkd (show gdB (ts.map Ty.k).length u.k = true by rw [List.length_map]; exact hb6) (show ¬ 0 ≤ uix (ts.map Ty.k) u.k.ui by show ¬ 0 ≤ uix (ts.map Ty.k) u.ui; omega) (show slP (ts.map Ty.k) u.k.par = false from (qgc (show u.par < 0 by omega))) (show cnt (ts.map Ty.k) u.par + u.fs.length ≤ 16 ∧ (ts.map Ty.k).length < 4096 by rw [List.length_map]; omega)] at hno
      exact absurd (show true = false from hno) (by decide)
 ·
  refine gcl A M (ef rfl rfl) (qig (V.below M.bel) hW (hU.below M.bel) hul huz hb6) fun w48 hb47 M a A => ?_
  refine sdo (v := bV true) A (zi rfl zm) λa A↦?_
  refine sdk (v := bV true) A λa A↦?_
  refine qa (hK5 _ _ (wp_cond_true (A.ev rfl) ?_))
  refine wsk fun K49 hK49 => wrl ?_
  iterate 2 refine sda A λa A↦?_
  refine qa (hK49 _ _ (wp_ret (hret _ _ (en2 A rfl (qf rfl) (qf rfl) ?_))))
  exact ⟨by rw [yf (show gdB (ts.map Ty.k).length u.k = false by rw [List.length_map]; exact hb6)], M.bel⟩
theorem zvb {w : World} {b tc rc : Nat} {tz ro : Option Addr} {ts : List Ty} {rs : List Rk} (V : SR w b tz tc ts ro rc rs) (hW : WS (ts.map Ty.k) (rs.map Rk.k)) {vo : Option Addr} {vc : Nat} {vs : List Dt} (hV : Rt w vo vs) (hD : ∀ d ∈ vs, d.rd w) (hvl : vs.length ≤ 1000000000) (hT : Tabs8 w) {t : Int} (hno : (mkS (ts.map Ty.k) rs.length t (vs.map Dt.tr)).2.2 = false) : Calls Tryz.prog 10 #[pA b 0, iV t, .slice vo vs.length vc] w fun e w' => e = .returned (.tuple #[iV (mkS (ts.map Ty.k) rs.length t (vs.map Dt.tr)).1, iV (mkS (ts.map Ty.k) rs.length t (vs.map Dt.tr)).2.1]) ∧ Below w.heap.size w w' := by
 have hkl := hW.kl
 have hrl := hW.rl
 rw [List.length_map] at hkl hrl
 have M : Mg w w ([]) := Mg.start w
 refine qs (l := [(0, pA b 0), (1, iV t), (2, .slice vo vs.length vc)]) Tryz.func10 rfl Tryz.ntmps10 rfl rfl ?_
 intro Q hret hnorm hP a A
 refine wsk fun K1 hK1 => wrl ?_
 iterate 2 refine sda A λa A↦?_
 refine qa (hK1 _ _ (wsk fun K2 hK2 => wrl ?_))
 iterate 2 refine sdm A λa A↦?_
 rcases tf (okT ts.length t) with hb3 | hb3
 ·
  have hx5 := ke hb3
  refine gcl A M (ef rfl rfl) (vp (V.below M.bel) hW hb3) fun w6 hb4 M a A => ?_
  refine sda A λa A↦?_
  refine qa (hK2 _ _ (wsk fun K7 hK7 => wp_block (wsk fun K8 hK8 => wrl (sdm A λa A↦?_))))
  refine sdo (v := bV false) A (qg rfl rfl (fun w => by kernel_rfl)) λa A↦?_
  refine sda A λa A↦?_
  refine qa (hK8 _ _ (wp_cond_false (A.ev rfl) ?_))
  refine wsk fun K9 hK9 => wrl (sdm A λa A↦?_)
  refine sdo A (qn Tryz.underlying34 rfl) λa A↦?_
  iterate 2 refine sdm A λa A↦?_
  refine gcl A M (ef rfl rfl) (vq (V.below M.bel) hW (by omega) (by omega)) fun w11 hb10 M a A => ?_
  rcases tf ((((vs.length : Nat) : Int) != ((cnt (ts.map Ty.k) t : Nat) : Int))) with hb12 | hb12
  ·
   have hb12' := bne_iff_ne.1 hb12
   refine sdc A zg hb12 λa A↦?_
   refine sda A λa A↦?_
   refine qa (hK9 _ _ (wp_cond_true (A.ev rfl) ?_))
   refine wsk fun K13 hK13 => wrl ?_
   iterate 2 refine sda A λa A↦?_
   refine qa (hK13 _ _ (wp_ret (hret _ _ (en2 A rfl (qf rfl) (qf rfl) ?_))))
   exact ⟨by rw [qvj hb3 (show (vs.map Dt.tr).length ≠ cnt (ts.map Ty.k) t by rw [List.length_map]; omega)], M.bel⟩
  ·
   have hb12' := bne_eq_false_iff_eq.1 hb12
   refine sdc A zg hb12 λa A↦?_
   refine sda A λa A↦?_
   refine qa (hK9 _ _ (wp_cond_false (A.ev rfl) ?_))
   refine wsk fun K14 hK14 => wrl (sdm A λa A↦?_)
   rcases tf ((vs.map Dt.tr).all (jh zx)) with hb15 | hb15
   ·
    refine gcl A M (ef rfl rfl) (qbh (hV.below M.bel) (fun d hd => Dt.keep M.bel _ (hD d hd)) hvl (hT.below M.bel) hb15) fun w17 hb16 M a A => ?_
    refine sda A λa A↦?_
    refine qa (hK14 _ _ (wp_cond_false (A.ev rfl) ?_))
    refine wsk fun K18 hK18 => wrl (sdm A λa A↦?_)
    refine sdo A (zh rfl) λa A↦?_
    refine sdo (v := pA b 1) A (qb ka rfl rfl) λa A↦?_
    refine sdo A (E.m_loadX M V.c1 qib rfl) λa A↦?_
    refine sdo A (qn Tryz.underlying71 rfl) λa A↦?_
    rcases tf (decide (20000 ≤ ((rs.length : Nat) : Int))) with hb19 | hb19
    ·
     have hb19' := of_decide_eq_true hb19
     refine sdc A zl hb19 λa A↦?_
     refine sda A λa A↦?_
     refine qa (hK18 _ _ (wp_cond_true (A.ev rfl) ?_))
     refine wsk fun K20 hK20 => wrl ?_
     iterate 2 refine sda A λa A↦?_
     refine qa (hK20 _ _ (wp_ret (hret _ _ (en2 A rfl (qf rfl) (qf rfl) ?_))))
     exact ⟨by rw [qod hb3 (show (vs.map Dt.tr).length = cnt (ts.map Ty.k) t by rw [List.length_map]; omega) hb15 (by omega)], M.bel⟩
    ·
     have hb19' := of_decide_eq_false hb19
     refine sdc A zl hb19 λa A↦?_
     refine sda A λa A↦?_
     refine qa (hK18 _ _ (wp_cond_false (A.ev rfl) ?_))
     refine wp_skip (hK7 _ _ (wsk fun K21 hK21 => ?_))
     rw [zed hb3 (show (vs.map Dt.tr).length = cnt (ts.map Ty.k) t by rw [List.length_map]; omega) hb15 (by omega)] at hno
     exact absurd (show true = false from hno) (by decide)
   ·
    refine gcl A M (ef rfl rfl) (qbh (hV.below M.bel) (fun d hd => Dt.keep M.bel _ (hD d hd)) hvl (hT.below M.bel) hb15) fun w23 hb22 M a A => ?_
    refine sda A λa A↦?_
    refine qa (hK14 _ _ (wp_cond_true (A.ev rfl) ?_))
    refine wsk fun K24 hK24 => wrl ?_
    iterate 2 refine sda A λa A↦?_
    refine qa (hK24 _ _ (wp_ret (hret _ _ (en2 A rfl (qf rfl) (qf rfl) ?_))))
    exact ⟨by rw [qoc hb3 (show (vs.map Dt.tr).length = cnt (ts.map Ty.k) t by rw [List.length_map]; omega) hb15], M.bel⟩
 ·
  have hx26 := qgb hb3
  refine gcl A M (ef rfl rfl) (kv (V.below M.bel) hW hb3) fun w27 hb25 M a A => ?_
  refine sda A λa A↦?_
  refine qa (hK2 _ _ (wsk fun K28 hK28 => wp_block (wsk fun K29 hK29 => wrl (sdm A λa A↦?_))))
  refine sdo (v := bV true) A (qg rfl rfl (fun w => by kernel_rfl)) λa A↦?_
  refine sda A λa A↦?_
  refine qa (hK29 _ _ (wp_cond_true (A.ev rfl) ?_))
  refine wsk fun K30 hK30 => wrl (sdm A λa A↦?_)
  iterate 2 refine sda A λa A↦?_
  refine qa (hK30 _ _ (wp_ret (hret _ _ (en2 A rfl (qf rfl) (qf rfl) ?_))))
  exact ⟨by rw [zec hb3], M.bel⟩
theorem zeg {ks : List TK} {rr : List (Nat × List Tr)} {r t i : Int} {v : Tr} (h : (plS ks rr r t i).2 ≠ 0) : seS ks rr r t i v = (plS ks rr r t i).2 := if_neg h
theorem qof {ks : List TK} {rr : List (Nat × List Tr)} {r t i : Int} {v : Tr} (h : (plS ks rr r t i).2 = 0) (hs : jh zx v = false) : seS ks rr r t i v = 2 := by unfold seS; rw [if_pos h, if_neg (by rw [hs]; decide)]
theorem qgj {ks : List TK} {rr : List (Nat × List Tr)} {r t i : Int} {v : Tr} (h : (plS ks rr r t i).2 = 0) (hs : jh zx v = true) {k : TK} (hk : ks[t.toNat]? = some k) {q : Bool} (hq : k.ms[i.toNat]? = some q) : seS ks rr r t i v = if q = true then 0 else 8 := by
 unfold seS
 rw [if_pos h, if_pos hs, hk]
 show (if (k.ms[i.toNat]?).getD false = true then _ else _) = _
 rw [hq]
 rfl
theorem zyi {w : World} {b tc rc : Nat} {tz ro : Option Addr} {ts : List Ty} {rs : List Rk} (V : SR w b tz tc ts ro rc rs) (hW : WS (ts.map Ty.k) (rs.map Rk.k)) {v : Dt} (hv : v.rd w) (hT : Tabs8 w) {r t i : Int} (hno : seS (ts.map Ty.k) (rs.map Rk.k) r t i v.tr ≠ 0) : Calls Tryz.prog 16 #[pA b 0, iV r, iV t, iV i, .agg (v.d.cells v.ts.length).toArray] w fun e w' => e = .returned (iV (seS (ts.map Ty.k) (rs.map Rk.k) r t i v.tr)) ∧ Below w.heap.size w w' := by
 have hkl := hW.kl
 have hrl := hW.rl
 rw [List.length_map] at hkl hrl
 have M : Mg w w ([]) := Mg.start w
 refine qs (l := [(0, pA b 0), (1, iV r), (2, iV t), (3, iV i), (4, .agg (v.d.cells v.ts.length).toArray)]) Tryz.func16 rfl Tryz.ntmps16 rfl rfl ?_
 intro Q hret hnorm hP a A
 refine wsk fun K1 hK1 => wrl (zy (vs := (v.d.cells v.ts.length)) (t := 42) A M rfl rfl rfl pg (zf rfl rfl) (by decide) ?_)
 intro g2 w3 M a A
 refine sda A λa A↦?_
 refine qa (hK1 _ _ (wsk fun K4 hK4 => wrl ?_))
 iterate 4 refine sdm A λa A↦?_
 refine gcl A M (ef rfl rfl) (ut (V.below M.bel) hW) fun w6 hb5 M a A => ?_
 refine sdm A λa A↦?_
 iterate 2 refine sdo A (zb (vs := [iV ((plS (ts.map Ty.k) (rs.map Rk.k) r t i).1), iV ((plS (ts.map Ty.k) (rs.map Rk.k) r t i).2)]) rfl rfl) λa A↦?_
 iterate 2 refine sda A λa A↦?_
 refine qa (hK4 _ _ (wsk fun K7 hK7 => wp_block (wsk fun K8 hK8 => wrl (sdm A λa A↦?_))))
 rcases tf (((plS (ts.map Ty.k) (rs.map Rk.k) r t i).2 != 0)) with hb9 | hb9
 ·
  have hb9' := bne_iff_ne.1 hb9
  refine sdc A zg hb9 λa A↦?_
  refine sda A λa A↦?_
  refine qa (hK8 _ _ (wp_cond_true (A.ev rfl) ?_))
  refine wsk fun K10 hK10 => wrl (sdm A λa A↦?_)
  refine sda A λa A↦?_
  refine qa (hK10 _ _ (wp_ret (hret _ _ (en1 A rfl (qf rfl) ?_))))
  exact ⟨by rw [zeg (show (plS (ts.map Ty.k) (rs.map Rk.k) r t i).2 ≠ 0 by omega)], M.bel⟩
 ·
  have hb9' := bne_eq_false_iff_eq.1 hb9
  refine sdc A zg hb9 λa A↦?_
  refine sda A λa A↦?_
  refine qa (hK8 _ _ (wp_cond_false (A.ev rfl) ?_))
  refine wsk fun K11 hK11 => wrl (sdo A (qz M xz rfl 0 rfl (cs := (v.d.cells v.ts.length)) rfl rfl) λa A↦?_)
  rcases tf (jh zx v.tr) with hb12 | hb12
  ·
   refine gcl A M (ef rfl rfl) ((hb12 ▸ sound_any (t := v) (Dt.keep M.bel _ hv) (hT.below M.bel))) fun w14 hb13 M a A => ?_
   refine sdo (v := bV false) A (zi rfl zm) λa A↦?_
   refine sda A λa A↦?_
   refine qa (hK11 _ _ (wp_cond_false (A.ev rfl) ?_))
   refine wsk fun K15 hK15 => ?_
   obtain ⟨x9, k9, hx9, hk9, p1, p2, p3, p4, p5, p6, p7, p8, p9, p10⟩ := qri hW (show (plS (ts.map Ty.k) (rs.map Rk.k) r t i).2 = 0 by omega)
   rw [List.length_map] at p2 p4
   obtain ⟨ty16, bt17, ot18, it19, mt20, rt21, lt22, Ht23⟩ := V.T.at_ (i := t.toNat) (by omega)
   have hml := hW.ml _ (List.mem_of_getElem? (zn it19))
   rw [show ty16.k.fs.length = ty16.fs.length from rfl, show ty16.k.ms.length = ty16.ms.length from rfl] at hml
   obtain rfl : k9 = ty16.k := Option.some.inj (hk9.symm.trans (zn it19))
   rw [show ty16.k.fs.length = ty16.fs.length from rfl] at p6
   refine wrl (sdm A λa A↦?_)
   refine sdo A (zh rfl) λa A↦?_
   refine sdo (v := pA b 0) A (qb jw rfl rfl) λa A↦?_
   refine sdo A (E.m_loadX M V.c0 xn rfl) λa A↦?_
   refine sdm A λa A↦?_
   refine sdo (v := pA bt17 (ot18 + t.toNat * 7)) A (qx (k := t.toNat) Tryz.underlying26 (by kernel_rfl) rfl rfl (by first | rfl | omega) lt22 (by omega)) λa A↦?_
   refine sdo (v := pA bt17 (ot18 + t.toNat * 7 + 3)) A (qb kk rfl rfl) λa A↦?_
   refine sdo A (jj (j := 3) M Ht23 qic rfl rfl rfl) λa A↦?_
   refine sdm A λa A↦?_
   obtain ⟨bx24, ox25, sx26, hs27, hc28, hi29⟩ := rt21.m.at_ (i := i.toNat) (by omega)
   refine sdo (v := pA bx24 (ox25 + i.toNat)) A (zk (k := i.toNat) Tryz.underlying31 (by kernel_rfl) rfl rfl (by first | rfl | omega) hs27 (by omega)) λa A↦?_
   refine sdo A (E.m_loadX M hc28 o94 rfl) λa A↦?_
   rcases sx26 with _ | _
   ·
    refine sdo (v := bV true) A (zi rfl zm) λa A↦?_
    refine sda A λa A↦?_
    refine qa (hK15 _ _ (wp_cond_true (A.ev rfl) ?_))
    refine wsk fun K30 hK30 => wrl (sda A λa A↦?_)
    refine qa (hK30 _ _ (wp_ret (hret _ _ (en1 A rfl (qf rfl) ?_))))
    exact ⟨by rw [qgj (show (plS (ts.map Ty.k) (rs.map Rk.k) r t i).2 = 0 by omega) hb12 hk9 hi29, if_neg (by decide)], M.bel⟩
   ·
    refine sdo (v := bV false) A (zi rfl zm) λa A↦?_
    refine sda A λa A↦?_
    refine qa (hK15 _ _ (wp_cond_false (A.ev rfl) ?_))
    refine wp_skip (hK7 _ _ (wsk fun K31 hK31 => ?_))
    rw [qgj (show (plS (ts.map Ty.k) (rs.map Rk.k) r t i).2 = 0 by omega) hb12 hk9 hi29, if_pos rfl] at hno
    exact absurd rfl hno
  ·
   refine gcl A M (ef rfl rfl) ((hb12 ▸ sound_any (t := v) (Dt.keep M.bel _ hv) (hT.below M.bel))) fun w33 hb32 M a A => ?_
   refine sdo (v := bV true) A (zi rfl zm) λa A↦?_
   refine sda A λa A↦?_
   refine qa (hK11 _ _ (wp_cond_true (A.ev rfl) ?_))
   refine wsk fun K34 hK34 => wrl (sda A λa A↦?_)
   refine qa (hK34 _ _ (wp_ret (hret _ _ (en1 A rfl (qf rfl) ?_))))
   exact ⟨by rw [qof (show (plS (ts.map Ty.k) (rs.map Rk.k) r t i).2 = 0 by omega) hb12], M.bel⟩
theorem zhg {ps : List Int} (hw : Wf ps) (q : List Int) : ∀ (n : Nat) (t : Int), t < ((ps.length : Nat) : Int) → chn (ps ++ q) n t = chn ps n t
  | 0, t, _ => rfl
  | n + 1, t, ht => by
    rw [chn, chn]
    by_cases h : t < 0
    · rw [if_pos h, if_pos h]
    · rw [if_neg h, if_neg h]
      have e : (ps ++ q).getD t.toNat (-1) = ps.getD t.toNat (-1) := by
        rw [List.getD_eq_getElem?_getD, List.getD_eq_getElem?_getD, List.getElem?_append_left (by omega)]
      have := hw.at_ (t := t) (by omega)
      rw [e, zhg hw q n _ (by omega)]
theorem zvc {ps : List Int} (hw : Wf ps) (q : List Int) {t : Int} (ht : t < ((ps.length : Nat) : Int)) : chT (ps ++ q) t = chT ps t := zhg hw q _ t ht
theorem zhh (ks : List TK) : (prs ks).length = ks.length := List.length_map _
theorem qwb {ks : List TK} (hw : Wf (prs ks)) (u : TK) {t : Int} (ht : t < ((ks.length : Nat) : Int)) : cnt (ks ++ [u]) t = cnt ks t := by
  unfold cnt
  rw [show prs (ks ++ [u]) = prs ks ++ [u.par] from List.map_append, zvc hw _ (by rw [zhh]; exact ht)]
  unfold qmh
  congr 1
  refine List.map_congr_left fun x hx => ?_
  have := qaa hw hx
  unfold nfs
  rw [List.getElem?_append_left (by omega)]
theorem zyj {ps : List Int} (hw : Wf ps) {p : Int} (h0 : -1 ≤ p) (h1 : p < ((ps.length : Nat) : Int)) : Wf (ps ++ [p]) := by
  intro i q h
  by_cases hi : i < ps.length
  · rw [List.getElem?_append_left hi] at h; exact hw i q h
  · rw [List.getElem?_append_right (by omega)] at h
    have hl := (List.getElem?_eq_some_iff.1 h).1
    simp only [List.length_cons, List.length_nil] at hl
    rw [show i - ps.length = 0 by omega] at h
    cases h
    omega
theorem zvd {ks : List TK} {rr : List (Nat × List Tr)} (hW : WS ks rr) {u : TK} (hn : (tyS ks u).2.2 = true) (hz : u.nm.size ≤ 281474976710656 ∧ u.ui.size ≤ 281474976710656 ∧ ∀ s ∈ u.fs, s.size ≤ 281474976710656) : WS (ks ++ [u]) rr := by
  have key : gdB ks.length u = true ∧ cnt ks u.par + u.fs.length ≤ 16 ∧ ks.length < 4096 := by
    unfold tyS at hn
    split at hn
    · rename_i hg
      split at hn
      · split at hn <;> cases hn
      · split at hn
        · cases hn
        · split at hn
          · rename_i h; exact ⟨hg, h⟩
          · cases hn
    · cases hn
  obtain ⟨hg, hc, hl⟩ := key
  obtain ⟨g1, g2, g3, g4⟩ := zoc hg
  have hwf : Wf (prs (ks ++ [u])) := by
    rw [show prs (ks ++ [u]) = prs ks ++ [u.par] from List.map_append]
    exact zyj hW.wf g3 (by rw [zhh]; exact g4)
  refine ⟨hwf, ?_, ?_, by rw [List.length_append]; show ks.length + 1 ≤ 4096; omega, ?_, hW.rl, hW.bk, ?_⟩
  · intro k hk
    rcases List.mem_append.1 hk with h | h
    · exact hW.ml k h
    · rw [List.mem_singleton.1 h]; exact g1
  · intro i hi
    rw [List.length_append] at hi
    by_cases h : i < ks.length
    · rw [qwb hW.wf u (by omega)]; exact hW.fl i h
    · have hi2 : i = ks.length := by simp only [List.length_cons, List.length_nil] at hi; omega
      subst hi2
      have e : (ks ++ [u])[((ks.length : Nat) : Int).toNat]? = some u := by
        rw [Int.toNat_natCast, List.getElem?_append_right (Nat.le_refl _), Nat.sub_self]; rfl
      rw [qmi hwf (by omega) e, qwb hW.wf u g4]
      omega
  · intro r hr
    have := hW.rk r hr
    rw [List.length_append, qwb hW.wf u (by omega)]
    exact ⟨by omega, this.2⟩
  · intro k hk
    rcases List.mem_append.1 hk with h | h
    · exact hW.zs k h
    · rw [List.mem_singleton.1 h]; exact hz
theorem zve {ks : List TK} {rr : List (Nat × List Tr)} (hW : WS ks rr) {t : Int} {vs : List Tr} (hn : (mkS ks rr.length t vs).2.2 = true) (hb : ∀ d ∈ vs, d.bulk ≤ 1000000000) : WS ks (rr ++ [(t.toNat, vs)]) := by
  have key : okT ks.length t = true ∧ vs.length = cnt ks t ∧ rr.length < 20000 := by
    unfold mkS at hn
    split at hn
    · rename_i h1
      split at hn
      · rename_i h2
        split at hn
        · split at hn
          · rename_i h3; exact ⟨h1, h2, h3⟩
          · cases hn
        · cases hn
      · cases hn
    · cases hn
  obtain ⟨h1, h2, h3⟩ := key
  have h4 := ke h1
  refine ⟨hW.wf, hW.ml, hW.fl, hW.kl, ?_, by rw [List.length_append]; show rr.length + 1 ≤ 20000; omega, ?_, hW.zs⟩
  · intro r hr
    rcases List.mem_append.1 hr with h | h
    · exact hW.rk r h
    · rw [List.mem_singleton.1 h]
      refine ⟨by show t.toNat < _; omega, ?_⟩
      show vs.length = cnt ks ((t.toNat : Nat) : Int)
      rw [show ((t.toNat : Nat) : Int) = t by omega]; exact h2
  · intro r hr
    rcases List.mem_append.1 hr with h | h
    · exact hW.bk r h
    · rw [List.mem_singleton.1 h]; exact hb
/-- One field of one record is changed. -/
def qzc (rr : List (Nat × List Tr)) (r a : Nat) (v : Tr) : List (Nat × List Tr) := match rr[r]? with
  | some x => rr.set r (x.1, x.2.set a v)
  | none => rr
theorem zhi {rr : List (Nat × List Tr)} {r a : Nat} {v : Tr} {x : Nat × List Tr} (h : rr[r]? = some x) : qzc rr r a v = rr.set r (x.1, x.2.set a v) := by unfold qzc; rw [h]
theorem qae {α : Type} {l : List α} {i : Nat} {v x : α} (h : x ∈ l.set i v) : x ∈ l ∨ x = v := List.mem_or_eq_of_mem_set h
theorem zza {ks : List TK} {rr : List (Nat × List Tr)} (hW : WS ks rr) {r a : Nat} {v : Tr} (hb : v.bulk ≤ 1000000000) : WS ks (qzc rr r a v) := by
  unfold qzc
  cases e : rr[r]? with
  | none => exact hW
  | some x =>
    have hx := List.mem_of_getElem? e
    refine ⟨hW.wf, hW.ml, hW.fl, hW.kl, ?_, by rw [List.length_set]; exact hW.rl, ?_, hW.zs⟩
    · intro q hq
      rcases qae hq with h | h
      · exact hW.rk q h
      · subst h
        have := hW.rk x hx
        refine ⟨this.1, ?_⟩
        show (x.2.set a v).length = _
        rw [List.length_set]; exact this.2
    · intro q hq d hd
      rcases qae hq with h | h
      · exact hW.bk q h d hd
      · subst h
        rcases qae hd with h | h
        · exact hW.bk x hx d h
        · rw [h]; exact hb
theorem zzb : WS [] [] := ⟨fun i p h => by simp [prs] at h, fun k h => (by cases h), fun i h => (by simp at h), by simp, fun r h => (by cases h), by simp, fun r h => (by cases h), fun k h => (by cases h)⟩
theorem zkj {vs : List Tr} (h : Tr.bulks vs ≤ 1000000000) : ∀ d ∈ vs, d.bulk ≤ 1000000000 := fun d hd => Nat.le_trans (qcd hd) h
theorem ve {a b : Ty} : xm a.k b.k = true ↔ a.nm = b.nm ∧ a.par = b.par ∧ a.fs = b.fs ∧ a.ms = b.ms ∧ a.sl = b.sl ∧ a.op = b.op ∧ a.ui = b.ui := by
  rw [vz]
  simp only [Bool.and_eq_true, decide_eq_true_eq, beq_iff_eq, and_assoc]
theorem zhj {ts : List Ty} {ui : ByteArray} (hne : ui ≠ ⟨#[]⟩) {i : Nat} {y : Ty} (hb : ∀ (j : Nat) u, j < i → ts[j]? = some u → u.ui ≠ ui) (hi : ts[i]? = some y) (hy : y.ui = ui) : uix (ts.map Ty.k) ui = ((i : Nat) : Int) := by
  unfold uix
  rw [if_neg (by rw [decide_eq_true_eq]; exact hne), quf]
  exact qkc (fun j u hj hu => decide_eq_false (hb j u hj hu)) hi (decide_eq_true hy)
theorem qzd {ts : List Ty} {ui : ByteArray} {i : Nat} (hb : ∀ (j : Nat) u, j < i → ts[j]? = some u → u.ui ≠ ui) (h : ui = ⟨#[]⟩ ∨ ts.length ≤ i) : ¬ 0 ≤ uix (ts.map Ty.k) ui := by
  unfold uix
  by_cases hq : ui = ⟨#[]⟩
  · rw [if_pos (decide_eq_true hq)]; decide
  · rw [if_neg (by rw [decide_eq_true_eq]; exact hq), quf]
    have hl := h.resolve_left hq
    rw [show ixG (fun x : Ty => decide (x.k.ui = ui)) ts = -1 from qga (fun j u hj hu => decide_eq_false (hb j u (by omega) hu))]
    decide
section
variable {P : Program} {w0 w : World} {L : List Ck} {l : List (Nat × Value)} {dst : Option Tmp} {ty : TypeId} {pos : String} {after : Array Edge} {guard : Option (Nat × Bool)}
/-- A whole number in a row of one's own. -/
theorem qze (hM : Mg w0 w L) (k : Nat) {e : TypeId} {n ca b o i o' : Nat} {so : Option Addr} {xs : List Int} {z : Int} (hk : L[k]? = some (.row e 1 (.slice so n ca) n (inC xs))) (hi : xs[i]? = some z) (hso : so = some ⟨b, o, none⟩) {t : TypeId} (ht : Is1 P t) {y : Operand} (hy : ev l y = some (.pointer (some ⟨b, o', none⟩))) (ho : o' = o + i) : Does P l ⟨dst, .load t y, ty, pos, after, guard⟩ w (.int .i64 z) w := by
  obtain ⟨b', o'', z', e1, h1, h2, _⟩ := qna (rc_own (hM.has k hk)) (List.getElem?_eq_some_iff.1 hi).1
  rw [hso] at e1
  cases e1
  subst ho
  rw [hi] at h2
  cases h2
  exact jn hy (jy ht h1)
end
structure Pst where
 tz : Option Addr
 tc : Nat
 ts : List Ty
 ro : Option Addr
 rc : Nat
 rs : List Rk
def Rk.row (r : Rk) : Ck := .row 42 11 (.slice r.vo r.vs.length r.vc) r.vs.length (cellsOf r.vs)
def Pst.head (P : Pst) (b : Nat) : List Ck := [(.obj b (.cells #[.slice P.tz P.ts.length P.tc, .slice P.ro P.rs.length P.rc] 73)), .row 33 7 (.slice P.tz P.ts.length P.tc) P.ts.length (qt Ty.c P.ts), .row 86 2 (.slice P.ro P.rs.length P.rc) P.rs.length (qt Rk.c P.rs)]
def Pst.pcs (P : Pst) (b : Nat) : List Ck := P.head b ++ P.rs.map Rk.row
def Pst.ks (P : Pst) : List TK := P.ts.map Ty.k
def Pst.rr (P : Pst) : List (Nat × List Tr) := P.rs.map Rk.k
structure PL (w0 : World) (X : List Ck) (P : Pst) : Prop where
 ty : ∀ t ∈ P.ts, ∀ w, Mg w0 w X → TyR w t
 da : ∀ r ∈ P.rs, ∀ d ∈ r.vs, ∀ w, Mg w0 w X → d.rd w
 ws : WS P.ks P.rr
 nb : jd X
section
variable {w0 w : World} {b : Nat} {P : Pst} {EE X : List Ck}
theorem qha (rs : List Rk) : jd (rs.map Rk.row) := fun c hc b bs e => by
 obtain ⟨r, _, h⟩ := List.mem_map.1 hc
 rw [← h] at e; cases e
theorem qzf (P : Pst) (b : Nat) : jd (P.head b) := fun c hc b' bs e => by
 simp only [Pst.head, List.mem_cons, List.not_mem_nil, or_false] at hc
 rcases hc with h | h | h <;> (rw [h] at e; cases e)
theorem zqa (P : Pst) (b : Nat) (EE X : List Ck) : (EE ++ (P.pcs b ++ X)).Perm (P.head b ++ (P.rs.map Rk.row ++ (X ++ EE))) := by
 refine List.perm_append_comm.trans ?_
 rw [Pst.pcs, List.append_assoc, List.append_assoc]
theorem toP (M : Mg w0 w (EE ++ (P.pcs b ++ X))) : Mg w0 w (P.head b ++ (P.rs.map Rk.row ++ (X ++ EE))) := M.perm (zqa P b EE X)
theorem zia (hP : PL w0 X P) (M : Mg w0 w (P.head b ++ (P.rs.map Rk.row ++ (X ++ EE)))) : SR w b P.tz P.tc P.ts P.ro P.rc P.rs := by
 have hX : Mg w0 w X := M.sub ((List.sublist_append_left X EE).trans ((List.sublist_append_right _ _).trans (List.sublist_append_right _ _)))
 have h0 : Mg w0 w ((.obj b (.cells #[.slice P.tz P.ts.length P.tc, .slice P.ro P.rs.length P.rc] 73)) :: .row 33 7 (.slice P.tz P.ts.length P.tc) P.ts.length (qt Ty.c P.ts) :: .row 86 2 (.slice P.ro P.rs.length P.rc) P.rs.length (qt Rk.c P.rs) :: (P.rs.map Rk.row ++ (X ++ EE))) := M
 refine ⟨h0.cell 0 rfl 0 rfl, h0.cell 0 rfl 1 rfl, ⟨rc_own (h0.has 1 rfl), fun t ht => hP.ty t ht w hX⟩, ⟨rc_own (h0.has 2 rfl), fun r hr => ⟨?_, fun d hd => hP.da r hr d hd w hX⟩⟩⟩
 have := M.all r.row (by
  refine List.mem_append_right _ (List.mem_append_left _ (List.mem_map.2 ⟨r, hr, rfl⟩)))
 exact (qea this).1
theorem PL.sr (hP : PL w0 X P) (M : Mg w0 w (EE ++ (P.pcs b ++ X))) : SR w b P.tz P.tc P.ts P.ro P.rc P.rs := zia hP (toP M)
theorem PL.more (hP : PL w0 X P) {F : List Ck} (hF : jd F) : PL w0 (F ++ X) P := ⟨fun t ht w h => hP.ty t ht w (h.sub (List.sublist_append_right _ _)), fun r hr d hd w h => hP.da r hr d hd w (h.sub (List.sublist_append_right _ _)), hP.ws, jz hF hP.nb⟩
theorem qzg (hE : jd EE) (hP : PL w0 X P) : jd (P.rs.map Rk.row ++ (X ++ EE)) := jz (qha P.rs) (jz hP.nb hE)
theorem inE {φ : World → Prop} (h : ∀ w1, Mg w0 w1 EE → φ w1) : ∀ w1, Mg w0 w1 (P.rs.map Rk.row ++ (X ++ EE)) → φ w1 := fun w1 h1 => h w1 (h1.sub ((List.sublist_append_right _ _).trans (List.sublist_append_right _ _)))
theorem zzc {hd N A F : List Ck} (h : Mg w0 w (hd ++ (F ++ (A ++ (X ++ EE))))) : Mg w0 w (EE ++ ((hd ++ A) ++ (F ++ X))) := by
 refine h.perm ?_
 refine List.Perm.trans ?_ List.perm_append_comm
 rw [List.append_assoc, List.append_assoc]
 refine List.Perm.append_left hd ?_
 refine (List.perm_append_comm_assoc F A _).trans ?_
 rw [List.append_assoc]
end
theorem qrj {xs cs : List Value} {o : Nat} (h : (xs.drop o).take cs.length = cs) : over xs o cs = xs := by
 induction cs generalizing o with
 | nil => rfl
 | cons c cs ih =>
  have h0 : xs[o]? = some c := by
   have := congrArg (fun l => l[0]?) h
   simpa using this
  have e : xs.set o c = xs := by
   apply List.ext_getElem?
   intro i
   by_cases hi : o = i
   ·
    subst hi; rw [List.getElem?_set_self (List.getElem?_eq_some_iff.1 h0).1]; exact h0.symm
   ·
    rw [List.getElem?_set_ne hi]
  rw [over, e]
  refine ih ?_
  have ho := (List.getElem?_eq_some_iff.1 h0).1
  rw [List.drop_eq_getElem_cons ho, List.length_cons, List.take_succ_cons] at h
  exact (List.cons.inj h).2
theorem zqb {w0 w : World} {b : Nat} {P : Pst} {EE X : List Ck} (hP : PL w0 X P) (hE : jd EE) {u : Ty} (hU : ∀ w1, Mg w0 w1 EE → TyR w1 u) (hul : u.fs.length ≤ 2000000) (hum : u.ms.length ≤ 2000000) (hz1 : u.nm.size ≤ 281474976710656) (hz2 : u.ui.size ≤ 281474976710656) (huz : ∀ s ∈ u.fs, s.size ≤ 281474976710656) (M : Mg w0 w (EE ++ (P.pcs b ++ X))) : Calls Tryz.prog 8 #[pA b 0, .agg u.c.toArray] w fun e w' => ∃ (P' : Pst) (F : List Ck), e = .returned (.tuple #[iV (tyS P.ks u.k).1, iV (tyS P.ks u.k).2.1]) ∧ (PL w0 (F ++ X) P' ∧ P'.ks = (if (tyS P.ks u.k).2.2 = true then P.ks ++ [u.k] else P.ks) ∧ P'.rr = P.rr) ∧ Mg w0 w' (EE ++ (P'.pcs b ++ (F ++ X))) := by
 have S := hP.sr M
 have hW := hP.ws
 have hEM : Mg w0 w EE := M.sub (List.sublist_append_left _ _)
 cases hq : (tyS P.ks u.k).2.2 with
 | false =>
  refine (zva S hW (hU w hEM) hul hum huz hq).mono ?_
  rintro e w' ⟨rfl, h1⟩
  exact ⟨P, [], rfl, ⟨hP, by rw [if_neg (by decide)], rfl⟩, M.call h1⟩
 | true =>
  have key : gdB P.ts.length u.k = true ∧ ¬ 0 ≤ uix P.ks u.ui ∧ slP P.ks u.par = false ∧ cnt P.ks u.par + u.fs.length ≤ 16 ∧ P.ts.length < 4096 ∧ tyS P.ks u.k = (((P.ts.length : Nat) : Int), 0, true) := by
   have hq0 := hq
   unfold tyS at hq
   split at hq
   ·
    rename_i hg
    split at hq
    ·
     split at hq <;> cases hq
    ·
     rename_i h0
     split at hq
     ·
      cases hq
     ·
      rename_i h1
      split at hq
      ·
       rename_i h2
       refine ⟨?_, h0, show slP P.ks u.k.par = false by simpa using h1, h2.1, by have := h2.2; rwa [Pst.ks, List.length_map] at this, ?_⟩
       ·
        rwa [Pst.ks, List.length_map] at hg
       ·
        rw [qkd hg h0 (by simpa using h1) h2, Pst.ks, List.length_map]
      ·
       cases hq
   ·
    cases hq
  obtain ⟨k1, k2, k3, k4, k5, k6⟩ := key
  refine (zpi (qzg hE hP) hW (fun w1 h1 => zia hP h1) (toP M) (inE hU) hul hum hz1 hz2 huz k1 k2 k3 k4 k5).mono ?_
  rintro e w' ⟨t2, tz', tc', rfl, hk2, h1⟩
  have hks : (P.ts ++ [t2]).map Ty.k = P.ks ++ [u.k] := by rw [List.map_append, List.map_cons, List.map_nil, hk2]; rfl
  refine ⟨⟨tz', tc', P.ts ++ [t2], P.ro, P.rc, P.rs⟩, [.row 9 1 (.slice t2.fo t2.fs.length t2.fc) t2.fs.length (E.strC t2.fs), .row 4 1 (.slice t2.mo t2.ms.length t2.mc) t2.ms.length (E.boolC t2.ms)], by rw [k6], ⟨⟨?_, fun r hr d hd w9 h9 => hP.da r hr d hd w9 (h9.sub (List.sublist_append_right _ _)), ?_, jz (qi (by simp) (qi (by simp) (fun c hc => by cases hc))) hP.nb⟩, by rw [if_pos rfl]; exact hks, rfl⟩, ?_⟩
  ·
   intro t ht w9 h9
   rcases List.mem_append.1 ht with h | h
   ·
    exact hP.ty t h w9 (h9.sub (List.sublist_append_right _ _))
   ·
    rw [List.mem_singleton.1 h]
    exact ⟨Go.Proofs.YtokgmpjblnpjmaaGreatDoor.G.E.rc_own (h9.has 0 rfl), Go.Proofs.YtokgmpjblnpjmaaGreatDoor.G.E.rc_own (h9.has 1 rfl)⟩
  ·
   show WS ((P.ts ++ [t2]).map Ty.k) P.rr
   rw [hks]
   exact zvd hW hq ⟨hz1, hz2, huz⟩
  ·
   exact zzc (hd := Pst.head ⟨tz', tc', P.ts ++ [t2], P.ro, P.rc, P.rs⟩ b) (N := []) (F := [.row 9 1 (.slice t2.fo t2.fs.length t2.fc) t2.fs.length (E.strC t2.fs), .row 4 1 (.slice t2.mo t2.ms.length t2.mc) t2.ms.length (E.boolC t2.ms)]) (A := P.rs.map Rk.row) h1
theorem zeh {w0 w : World} {b : Nat} {P : Pst} {EE X : List Ck} (hP : PL w0 X P) (hE : jd EE) {vo : Option Addr} {vc : Nat} {vs : List Dt} (hV : ∀ w1, Mg w0 w1 EE → Rt w1 vo vs ∧ ∀ d ∈ vs, d.rd w1) (hvb : Tr.bulks (vs.map Dt.tr) ≤ 1000000000) (hT : ∀ w1, Mg w0 w1 EE → Tabs8 w1) (t : Int) (M : Mg w0 w (EE ++ (P.pcs b ++ X))) : Calls Tryz.prog 10 #[pA b 0, iV t, .slice vo vs.length vc] w fun e w' => ∃ (P' : Pst) (F : List Ck), e = .returned (.tuple #[iV (mkS P.ks P.rs.length t (vs.map Dt.tr)).1, iV (mkS P.ks P.rs.length t (vs.map Dt.tr)).2.1]) ∧ (PL w0 (F ++ X) P' ∧ P'.ks = P.ks ∧ P'.rr = (if (mkS P.ks P.rs.length t (vs.map Dt.tr)).2.2 = true then P.rr ++ [(t.toNat, vs.map Dt.tr)] else P.rr)) ∧ Mg w0 w' (EE ++ (P'.pcs b ++ (F ++ X))) := by
 have S := hP.sr M
 have hW := hP.ws
 have hEM : Mg w0 w EE := M.sub (List.sublist_append_left _ _)
 have hvl := yk vs
 cases hq : (mkS P.ks P.rs.length t (vs.map Dt.tr)).2.2 with
 | false =>
  refine (zvb S hW (hV w hEM).1 (hV w hEM).2 (by omega) (hT w hEM) hq).mono ?_
  rintro e w' ⟨rfl, h1⟩
  exact ⟨P, [], rfl, ⟨hP, rfl, by rw [if_neg (by decide)]⟩, M.call h1⟩
 | true =>
  have key : okT P.ts.length t = true ∧ vs.length = cnt P.ks t ∧ (vs.map Dt.tr).all (jh zx) = true ∧ P.rs.length < 20000 ∧ mkS P.ks P.rs.length t (vs.map Dt.tr) = (((P.rs.length : Nat) : Int), 0, true) := by
   unfold mkS at hq
   split at hq
   ·
    rename_i h1
    rw [Pst.ks, List.length_map] at h1
    split at hq
    ·
     rename_i h2
     split at hq
     ·
      rename_i h3
      split at hq
      ·
       rename_i h4; exact ⟨h1, by rw [← h2, List.length_map], h3, h4, zed h1 h2 h3 h4⟩
      ·
       cases hq
     ·
      cases hq
    ·
     cases hq
   ·
    cases hq
  obtain ⟨k1, k2, k3, k4, k5⟩ := key
  refine (zuj (qzg hE hP) hW (fun w1 h1 => zia hP h1) (toP M) (inE hV) hvb (inE hT) k1 k2 k3 k4).mono ?_
  rintro e w' ⟨us, so6, ca6, ro', rc', F, rfl, ⟨htr, hL, hF⟩, h1⟩
  have hrr : (P.rs ++ [Rk.mk t.toNat so6 ca6 us]).map Rk.k = P.rr ++ [(t.toNat, vs.map Dt.tr)] := by rw [List.map_append, List.map_cons, List.map_nil, ← htr]; rfl
  refine ⟨⟨P.tz, P.tc, P.ts, ro', rc', P.rs ++ [Rk.mk t.toNat so6 ca6 us]⟩, F, by rw [k5], ⟨⟨fun y hy w9 h9 => hP.ty y hy w9 (h9.sub (List.sublist_append_right _ _)), ?_, ?_, jz hF hP.nb⟩, rfl, by rw [if_pos rfl]; exact hrr⟩, ?_⟩
  ·
   intro r hr d hd w9 h9
   rcases List.mem_append.1 hr with h | h
   ·
    exact hP.da r h d hd w9 (h9.sub (List.sublist_append_right _ _))
   ·
    rw [List.mem_singleton.1 h] at hd
    exact hL d hd _ w9 (h9.sub (List.sublist_append_left _ _))
  ·
   show WS P.ks ((P.rs ++ [Rk.mk t.toNat so6 ca6 us]).map Rk.k)
   rw [hrr]
   exact zve hW (by rw [Pst.rr, List.length_map]; exact hq) (zkj hvb)
  ·
   refine zzc (hd := Pst.head ⟨P.tz, P.tc, P.ts, ro', rc', P.rs ++ [Rk.mk t.toNat so6 ca6 us]⟩ b) (N := []) (F := F) (A := (P.rs ++ [Rk.mk t.toNat so6 ca6 us]).map Rk.row) ?_
   refine Mg.perm h1 ?_
   rw [List.map_append]
   show List.Perm (Pst.head ⟨P.tz, P.tc, P.ts, ro', rc', P.rs ++ [Rk.mk t.toNat so6 ca6 us]⟩ b ++ ([(Rk.mk t.toNat so6 ca6 us).row] ++ (F ++ (P.rs.map Rk.row ++ (X ++ EE))))) _
   refine List.Perm.append_left _ ?_
   refine (List.perm_append_comm_assoc _ F _).trans (List.Perm.append_left F ?_)
   rw [List.append_assoc]
   exact List.perm_append_comm_assoc _ _ _
theorem zib {rs : List Rk} : ∀ {j : Nat} {x : Rk} (y : Rk), rs[j]? = some x → (rs.map Rk.row).Perm (x.row :: (rs.eraseIdx j).map Rk.row) ∧ ((rs.set j y).map Rk.row).Perm (y.row :: (rs.eraseIdx j).map Rk.row) := by
 induction rs with
 | nil => intro j x y h; simp at h
 | cons a l ih =>
  intro j x y h
  cases j with
  | zero => cases h; exact ⟨.refl _, .refl _⟩
  | succ j =>
   obtain ⟨h1, h2⟩ := ih y (show l[j]? = some x by simpa using h)
   exact ⟨(h1.cons _).trans (.swap _ _ _), (h2.cons _).trans (.swap _ _ _)⟩
theorem jah {w0 w : World} {b : Nat} {P : Pst} {EE X : List Ck} (hP : PL w0 X P) (hE : jd EE) {v : Dt} (hv : ∀ w1, Mg w0 w1 EE → v.rd w1) (hvb : v.tr.bulk ≤ 1000000000) (hT : ∀ w1, Mg w0 w1 EE → Tabs8 w1) (r t i : Int) (M : Mg w0 w (EE ++ (P.pcs b ++ X))) : Calls Tryz.prog 16 #[pA b 0, iV r, iV t, iV i, .agg (v.d.cells v.ts.length).toArray] w fun e w' => ∃ (P' : Pst) (F : List Ck), e = .returned (iV (seS P.ks P.rr r t i v.tr)) ∧ (PL w0 (F ++ X) P' ∧ P'.ks = P.ks ∧ P'.rr = (if seS P.ks P.rr r t i v.tr = 0 then qzc P.rr r.toNat (plS P.ks P.rr r t i).1.toNat v.tr else P.rr)) ∧ Mg w0 w' (EE ++ (P'.pcs b ++ (F ++ X))) := by
 have S := hP.sr M
 have hW := hP.ws
 have hEM : Mg w0 w EE := M.sub (List.sublist_append_left _ _)
 by_cases hq : seS P.ks P.rr r t i v.tr = 0
 ·
  have key : (plS P.ks P.rr r t i).2 = 0 ∧ jh zx v.tr = true ∧ (((P.ks[t.toNat]?).map fun k => (k.ms[i.toNat]?).getD false).getD false) = true := by
   have hq0 := hq
   unfold seS at hq
   split at hq
   ·
    rename_i h1
    split at hq
    ·
     rename_i h2
     split at hq
     ·
      rename_i h3; exact ⟨h1, h2, h3⟩
     ·
      exact absurd hq (by decide)
    ·
     exact absurd hq (by decide)
   ·
    rename_i h1; exact absurd hq h1
  obtain ⟨k1, k2, k3⟩ := key
  obtain ⟨x9, k9, hx9, hk9, p1, p2, p3, p4, p5, p6, p7, p8, p9, p10⟩ := qri hW k1
  have hr2 : r.toNat < P.rs.length := by rw [Pst.rr, List.length_map] at p2; omega
  have hx : P.rs[r.toNat]? = some (P.rs[r.toNat]) := List.getElem?_eq_getElem hr2
  generalize P.rs[r.toNat] = x at hx
  have hxk := xg hx
  have hexk : x9 = x.k := Option.some.inj (hx9.symm.trans hxk)
  subst hexk
  have hpm : (P.rs.map Rk.row ++ (X ++ EE)).Perm (x.row :: ((P.rs.eraseIdx r.toNat).map Rk.row ++ (X ++ EE))) := (zib x hx).1.append_right _
  refine (zyh (x := x) (Y := (P.rs.eraseIdx r.toNat).map Rk.row ++ (X ++ EE)) (jz (qha _) (jz hP.nb hE)) hW (fun w1 h1 => zia hP (h1.perm (List.Perm.append_left (P.head b) hpm.symm))) ((toP M).perm (List.Perm.append_left (P.head b) hpm)) (fun w1 h1 => hv w1 (h1.sub ((List.sublist_append_right _ _).trans (List.sublist_append_right _ _)))) hvb (fun w1 h1 => hT w1 (h1.sub ((List.sublist_append_right _ _).trans (List.sublist_append_right _ _)))) hx k1 k2 k3).mono ?_
  rintro e w' ⟨v2, F, rfl, ⟨ht2, hL, hF⟩, h1⟩
  have hlen : (x.vs.set (plS P.ks P.rr r t i).1.toNat v2).length = x.vs.length := List.length_set
  have hln2 : (P.rs.set r.toNat (Rk.mk x.kd x.vo x.vc (x.vs.set (plS P.ks P.rr r t i).1.toNat v2))).length = P.rs.length := List.length_set
  have hrr : (P.rs.set r.toNat (Rk.mk x.kd x.vo x.vc (x.vs.set (plS P.ks P.rr r t i).1.toNat v2))).map Rk.k = qzc P.rr r.toNat (plS P.ks P.rr r t i).1.toNat v.tr := by
   rw [zhi hx9, List.map_set]
   show (P.rs.map Rk.k).set _ (x.kd, (x.vs.set (plS P.ks P.rr r t i).1.toNat v2).map Dt.tr) = _
   rw [List.map_set, ht2]; rfl
  have hcc : qt Rk.c (P.rs.set r.toNat (Rk.mk x.kd x.vo x.vc (x.vs.set (plS P.ks P.rr r t i).1.toNat v2))) = qt Rk.c P.rs := by
   rw [← qxj uz _ hr2]
   refine qrj ?_
   show ((qt Rk.c P.rs).drop _).take 2 = [iV ((x.kd : Nat) : Int), .slice x.vo (x.vs.set (plS P.ks P.rr r t i).1.toNat v2).length x.vc]
   rw [hlen, qkb uz hx]; rfl
  refine ⟨⟨P.tz, P.tc, P.ts, P.ro, P.rc, P.rs.set r.toNat (Rk.mk x.kd x.vo x.vc (x.vs.set (plS P.ks P.rr r t i).1.toNat v2))⟩, F, by rw [hq], ⟨⟨fun y hy w9 h9 => hP.ty y hy w9 (h9.sub (List.sublist_append_right _ _)), ?_, ?_, jz hF hP.nb⟩, rfl, by rw [if_pos hq]; exact hrr⟩, ?_⟩
  ·
   intro y hy d hd w9 h9
   have h9X := h9.sub (List.sublist_append_right F X)
   rcases qae hy with h | h
   ·
    exact hP.da y h d hd w9 h9X
   ·
    rw [h] at hd
    rcases qae hd with h | h
    ·
     exact hP.da x (List.mem_of_getElem? hx) d h w9 h9X
    ·
     rw [h]; exact hL _ w9 (h9.sub (List.sublist_append_left _ _))
  ·
   show WS P.ks ((P.rs.set r.toNat (Rk.mk x.kd x.vo x.vc (x.vs.set (plS P.ks P.rr r t i).1.toNat v2))).map Rk.k)
   rw [hrr]
   exact zza hW hvb
  ·
   refine zzc (hd := Pst.head ⟨P.tz, P.tc, P.ts, P.ro, P.rc, P.rs.set r.toNat (Rk.mk x.kd x.vo x.vc (x.vs.set (plS P.ks P.rr r t i).1.toNat v2))⟩ b) (N := []) (F := F) (A := (P.rs.set r.toNat (Rk.mk x.kd x.vo x.vc (x.vs.set (plS P.ks P.rr r t i).1.toNat v2))).map Rk.row) ?_
   have eh : Pst.head ⟨P.tz, P.tc, P.ts, P.ro, P.rc, P.rs.set r.toNat (Rk.mk x.kd x.vo x.vc (x.vs.set (plS P.ks P.rr r t i).1.toNat v2))⟩ b = P.head b := by
    show [_, _, Ck.row _ _ (.slice P.ro (P.rs.set r.toNat _).length P.rc) (P.rs.set r.toNat _).length (qt Rk.c (P.rs.set r.toNat _))] = _
    rw [hcc, hln2]; rfl
   rw [eh]
   refine Mg.perm h1 ?_
   show List.Perm (P.head b ++ (.row 42 11 (.slice x.vo x.vs.length x.vc) x.vs.length (cellsOf (x.vs.set (plS P.ks P.rr r t i).1.toNat v2)) :: (F ++ ((P.rs.eraseIdx r.toNat).map Rk.row ++ (X ++ EE))))) _
   refine List.Perm.append_left _ ?_
   refine List.Perm.trans ?_ (List.Perm.append_left F ((zib (Rk.mk x.kd x.vo x.vc (x.vs.set (plS P.ks P.rr r t i).1.toNat v2)) hx).2.symm.append_right _))
   rw [show (Rk.mk x.kd x.vo x.vc (x.vs.set (plS P.ks P.rr r t i).1.toNat v2)).row = Ck.row 42 11 (.slice x.vo x.vs.length x.vc) x.vs.length (cellsOf (x.vs.set (plS P.ks P.rr r t i).1.toNat v2)) from by unfold Rk.row; rw [hlen]]
   exact (List.perm_append_comm_assoc F [_] _).symm
 ·
  refine (zyi S hW (hv w hEM) (hT w hEM) hq).mono ?_
  rintro e w' ⟨rfl, h1⟩
  exact ⟨P, [], rfl, ⟨hP, rfl, by rw [if_neg hq]⟩, M.call h1⟩
def kD (k n : Int) : Dt := .mk ⟨k, n, ⟨Q6.zero, none, 0, none, 0, none, 0, none, 0⟩, ⟨#[]⟩, none, 0, [], none, 0⟩ []
def kT (k n : Int) : Tr := .mk k n Q6.zero ⟨#[]⟩ [] []
theorem zwj (k n : Int) : (kD k n).tr = kT k n := by unfold kD kT; rw [Dt.tr_mk]; rfl
theorem jai (w : World) {k n : Int} (h0 : -9223372036854775808 ≤ k) (h1 : k ≤ 9223372036854775807) (h2 : -9223372036854775808 ≤ n) (h3 : n ≤ 9223372036854775807) : (kD k n).rd w :=
  Dt.rd_iff.2 ⟨⟨⟨Sc.none w, Sc.none w, Sc.none w, Sc.none w⟩, qrf, ⟨fun h => absurd rfl h⟩, Nat.le_refl _, by show (0 : Nat) ≤ _; omega, h0, h1, h2, h3, by show (0 : Nat) ≤ _; omega⟩, Nat.le_refl _, by show (0 : Nat) ≤ _; omega, fun h => absurd rfl h, fun t h => by cases h⟩
theorem jca {t u : Dt} (h : t.tr = u.tr) : t.d.n = u.d.n := by
  cases t with
  | mk d ts =>
    cases u with
    | mk e us =>
      rw [Dt.tr_mk, Dt.tr_mk] at h
      injection h
theorem zic {w : World} : Calls Tryz.prog 7 #[] w fun e w' => ∃ g, e = .returned (pA g 0) ∧ Mg w w' ((⟨none, 0, [], none, 0, []⟩ : Pst).pcs g) := by
 have M : Mg w w ([]) := Mg.start w
 refine qs (l := []) Tryz.func7 rfl Tryz.ntmps7 rfl rfl ?_
 intro Q hret hnorm hP a A
 refine wsk fun K1 hK1 => wrl (sda A λa A↦?_)
 refine qa (hK1 _ _ (wsk fun K2 hK2 => wrl (sdo (v := .agg #[.slice none 0 0, .slice none 0 0]) A (jb rfl (fun w => by kernel_rfl)) λa A↦?_)))
 refine zy (vs := [.slice none 0 0, .slice none 0 0]) (t := 73) A M rfl rfl rfl pg (zf rfl rfl) (by decide) ?_
 intro g3 w4 M a A
 refine sda A λa A↦?_
 refine qa (hK2 _ _ (wp_ret (hret _ _ (en1 A rfl (qf rfl) ?_))))
 have hM2 := (M.nilRow (qi (by simp) (qk qm)) 86 2).nilRow (qi (by simp) (qi (by simp) (qk qm))) 33 7
 exact ⟨_, rfl, hM2.perm ((List.Perm.cons _ (List.Perm.swap _ _ _)).trans (List.Perm.swap _ _ _))⟩
theorem qzh (g : Nat) : jd ((⟨none, 0, [], none, 0, []⟩ : Pst).pcs g) := jz (qzf _ _) (qha _)
theorem pl0 (w0 : World) : PL w0 [] (⟨none, 0, [], none, 0, []⟩ : Pst) := ⟨fun t h => (by cases h), fun r h => (by cases h), zzb, fun c h => (by cases h)⟩
def awK : TK := ⟨⟨#[112]⟩, -1, [⟨#[120]⟩], [true], false, false, ⟨#[]⟩⟩
theorem jaj : tyS [] awK = (0, 0, true) := by decide +kernel
theorem jba : mkS [awK] 0 0 [kT 2 1] = (0, 0, true) := by decide +kernel
theorem jbb : plS [awK] [(0, [kT 2 1])] 0 0 0 = (0, 0) := by decide +kernel
theorem jbc : gtT [awK] [(0, [kT 2 1])] 0 0 0 = kT 2 1 := by unfold gtT; rw [jbb]; rfl
theorem zvf {w0 w : World} {b : Nat} {P : Pst} {EE X : List Ck} (hP : PL w0 X P) (hE : jd EE) {u : Ty} (hU : ∀ w1, Mg w0 w1 EE → TyR w1 u) (hul : u.fs.length ≤ 2000000) (hum : u.ms.length ≤ 2000000) (hz1 : u.nm.size ≤ 281474976710656) (hz2 : u.ui.size ≤ 281474976710656) (huz : ∀ s ∈ u.fs, s.size ≤ 281474976710656) {a : Int} (hz : tyS P.ks u.k = (a, 0, true)) (M : Mg w0 w (EE ++ (P.pcs b ++ X))) : Calls Tryz.prog 8 #[pA b 0, .agg u.c.toArray] w fun e w' => ∃ (P' : Pst) (F : List Ck), e = .returned (.tuple #[iV a, iV 0]) ∧ (PL w0 (F ++ X) P' ∧ P'.ks = P.ks ++ [u.k] ∧ P'.rr = P.rr) ∧ Mg w0 w' (EE ++ (P'.pcs b ++ (F ++ X))) := by
 have h := zqb hP hE hU hul hum hz1 hz2 huz M
 rw [hz] at h
 exact h
theorem zvg {w0 w : World} {b : Nat} {P : Pst} {EE X : List Ck} (hP : PL w0 X P) (hE : jd EE) {vo : Option Addr} {vc : Nat} {vs : List Dt} (hV : ∀ w1, Mg w0 w1 EE → Rt w1 vo vs ∧ ∀ d ∈ vs, d.rd w1) (hvb : Tr.bulks (vs.map Dt.tr) ≤ 1000000000) (hT : ∀ w1, Mg w0 w1 EE → Tabs8 w1) (t : Int) {ks : List TK} {n : Nat} {trs : List Tr} {a : Int} (hks : P.ks = ks) (hn : P.rs.length = n) (htr : vs.map Dt.tr = trs) (hz : mkS ks n t trs = (a, 0, true)) (M : Mg w0 w (EE ++ (P.pcs b ++ X))) : Calls Tryz.prog 10 #[pA b 0, iV t, .slice vo vs.length vc] w fun e w' => ∃ (P' : Pst) (F : List Ck), e = .returned (.tuple #[iV a, iV 0]) ∧ (PL w0 (F ++ X) P' ∧ P'.ks = ks ∧ P'.rr = P.rr ++ [(t.toNat, trs)]) ∧ Mg w0 w' (EE ++ (P'.pcs b ++ (F ++ X))) := by
 have h := zeh (vc := vc) hP hE hV hvb hT t M
 rw [hks, hn, htr, hz] at h
 exact h
theorem jbd {w0 w : World} {b : Nat} {P : Pst} {EE X : List Ck} (hP : PL w0 X P) (r t i : Int) {ks : List TK} {rr : List (Nat × List Tr)} (hks : P.ks = ks) (hrr : P.rr = rr) (M : Mg w0 w (EE ++ (P.pcs b ++ X))) : Calls Tryz.prog 13 #[pA b 0, iV r, iV t, iV i] w fun e w' => ∃ d2 : Dt, e = .returned (.tuple #[.agg (d2.d.cells d2.ts.length).toArray, iV (plS ks rr r t i).2]) ∧ (d2.rd w' ∧ d2.tr = gtT ks rr r t i) ∧ Mg w0 w' (EE ++ (P.pcs b ++ X)) := by
 subst hks hrr
 refine (zhf (hP.sr M) hP.ws).mono ?_
 rintro e w' ⟨d2, h1, h2, h3⟩
 exact ⟨d2, h1, ⟨h2.1, h2.2.1⟩, M.call h3⟩
theorem zla {w : World} (hT : Tabs8 w) : Calls Tryz.prog 6 #[] w fun e w' => e = .returned (bV true) ∧ Below w.heap.size w w' := by
 have M : Mg w w ([]) := Mg.start w
 refine qs (l := []) Tryz.func6 rfl Tryz.ntmps6 rfl rfl ?_
 intro Q hret hnorm hP a A
 refine wsk fun K1 hK1 => wrl (sda A λa A↦?_)
 refine qa (hK1 _ _ (wsk fun K2 hK2 => wrl (sct A (ef rfl rfl) (zic) ?_)))
 rintro _ w5 ⟨g4, rfl, hM3⟩
 replace M : Mg w w5 (((⟨none, 0, [], none, 0, []⟩ : Pst).pcs g4 ++ [])) := (show Mg _ _ ([] ++ ((⟨none, 0, [], none, 0, []⟩ : Pst).pcs g4 ++ [])) from (by rw [List.append_nil]; exact (M.both hM3 (qk qm) (qzh g4)).perm List.perm_append_comm))
 refine ⟨_, rfl, ?_⟩
 intro a A
 refine sda A λa A↦?_
 refine qa (hK2 _ _ (wsk fun K6 hK6 => wsk fun K7 hK7 => wrl (sdm A λa A↦?_)))
 refine sdo (v := bV false) A (qg rfl rfl (fun w => by kernel_rfl)) λa A↦?_
 refine qa (hK7 _ _ (wp_cond_false (A.ev rfl) ?_))
 refine wp_skip (hK6 _ _ (wsk fun K8 hK8 => wrl (sdm A λa A↦?_)))
 refine xr (e := 9) (sz := 1) (m := 1) (vs := E.strC [⟨#[120]⟩]) A M rfl rfl rfl (qy rfl (by kernel_rfl)) rfl rfl (.inl (by decide)) ?_
 intro g9 w10 M a A
 refine xr (e := 4) (sz := 1) (m := 1) (vs := E.boolC [true]) A M rfl rfl rfl (qy rfl (by kernel_rfl)) rfl rfl (.inl (by decide)) ?_
 intro g11 w12 M a A
 refine sdo (v := .agg #[.string (⟨#[112]⟩), iV (-1), .slice (aO g9) 1 1, .slice (aO g11) 1 1, bV false, bV false, .string (⟨#[]⟩)]) A (jb rfl (fun w => by kernel_rfl)) λa A↦?_
 refine sct A (ef rfl rfl) (zvf (EE := [.row 4 1 (.slice (aO g11) 1 1) 1 (E.boolC [true]), .row 9 1 (.slice (aO g9) 1 1) 1 (E.strC [⟨#[120]⟩])]) (pl0 w) (qi (by simp) (qi (by simp) (qk qm))) (u := (⟨⟨#[112]⟩, -1, some ⟨g9, 0, none⟩, 1, [⟨#[120]⟩], some ⟨g11, 0, none⟩, 1, [true], false, false, ⟨#[]⟩⟩ : Ty)) (fun w1 h1 => ⟨E.rc_own (h1.has 1 rfl), E.rc_own (h1.has 0 rfl)⟩) (show 1 ≤ 2000000 by decide) (show 1 ≤ 2000000 by decide) (show (⟨#[112]⟩ : ByteArray).size ≤ 281474976710656 by decide) (show (⟨#[]⟩ : ByteArray).size ≤ 281474976710656 by decide) (fun s hs => by rw [List.mem_singleton.1 hs]; decide) jaj M) ?_
 rintro _ w14 ⟨P1, F1, rfl, ⟨hP1, hk1, hr1⟩, hM13⟩
 replace M : Mg w w14 (.row 4 1 (.slice (aO g11) 1 1) 1 (E.boolC [true]) :: .row 9 1 (.slice (aO g9) 1 1) 1 (E.strC [⟨#[120]⟩]) :: (P1.pcs g4 ++ (F1 ++ []))) := hM13
 refine ⟨_, rfl, ?_⟩
 intro a A
 refine sdm A λa A↦?_
 iterate 2 refine sdo A (zb (vs := [iV 0, iV 0]) rfl rfl) λa A↦?_
 iterate 2 refine sda A λa A↦?_
 refine qa (hK8 _ _ (wsk fun K15 hK15 => wrl ?_))
 iterate 2 refine sdm A λa A↦?_
 refine sdo (v := .agg ((kD 2 1).d.cells (kD 2 1).ts.length).toArray) A (jb rfl (fun w => by kernel_rfl)) λa A↦?_
 refine xr (e := 42) (sz := 11) (m := 1) (vs := cellsOf [(kD 2 1)]) A M rfl rfl rfl (qy rfl (by kernel_rfl)) rfl rfl (.inl (by decide)) ?_
 intro g16 w17 M a A
 refine sct A (ef rfl rfl) (zvg (EE := [.row 42 11 (.slice (aO g16) 1 1) 1 (cellsOf [(kD 2 1)]), .row 4 1 (.slice (aO g11) 1 1) 1 (E.boolC [true]), .row 9 1 (.slice (aO g9) 1 1) 1 (E.strC [⟨#[120]⟩])]) (vs := [kD 2 1]) hP1 (qi (by simp) (qi (by simp) (qi (by simp) (qk qm)))) (fun w1 h1 => ⟨(qea (h1.has 0 rfl)).1, fun d hd => by rw [List.mem_singleton.1 hd]; exact jai _ (by decide) (by decide) (by decide) (by decide)⟩) (by decide +kernel) (fun w1 h1 => hT.below h1.bel) 0 (show P1.ks = [awK] from hk1) (by have h8 := congrArg List.length hr1; rw [Pst.rr, List.length_map] at h8; exact h8) (show [kD 2 1].map Dt.tr = [kT 2 1] by rw [List.map_cons, List.map_nil, zwj]) jba M) ?_
 rintro _ w19 ⟨P2, F2, rfl, ⟨hP2, hk2, hr2⟩, hM18⟩
 replace M : Mg w w19 (.row 42 11 (.slice (aO g16) 1 1) 1 (cellsOf [(kD 2 1)]) :: .row 4 1 (.slice (aO g11) 1 1) 1 (E.boolC [true]) :: .row 9 1 (.slice (aO g9) 1 1) 1 (E.strC [⟨#[120]⟩]) :: (P2.pcs g4 ++ (F2 ++ (F1 ++ [])))) := hM18
 refine ⟨_, rfl, ?_⟩
 intro a A
 refine sdm A λa A↦?_
 iterate 2 refine sdo A (zb (vs := [iV 0, iV 0]) rfl rfl) λa A↦?_
 iterate 2 refine sda A λa A↦?_
 refine qa (hK15 _ _ (wsk fun K20 hK20 => wrl ?_))
 iterate 3 refine sdm A λa A↦?_
 refine sct A (ef rfl rfl) (jbd (EE := [.row 42 11 (.slice (aO g16) 1 1) 1 (cellsOf [(kD 2 1)]), .row 4 1 (.slice (aO g11) 1 1) 1 (E.boolC [true]), .row 9 1 (.slice (aO g9) 1 1) 1 (E.strC [⟨#[120]⟩])]) hP2 0 0 0 hk2 (show P2.rr = [(0, [kT 2 1])] by rw [hr2, hr1]; rfl) M) ?_
 rintro _ w22 ⟨d2, rfl, ⟨hd2, hdt2⟩, hM21⟩
 have hn2 : d2.d.n = 1 := jca (u := kD 2 1) (hdt2.trans (jbc.trans (zwj 2 1).symm))
 replace M : Mg w w22 (.row 42 11 (.slice (aO g16) 1 1) 1 (cellsOf [(kD 2 1)]) :: .row 4 1 (.slice (aO g11) 1 1) 1 (E.boolC [true]) :: .row 9 1 (.slice (aO g9) 1 1) 1 (E.strC [⟨#[120]⟩]) :: (P2.pcs g4 ++ (F2 ++ (F1 ++ [])))) := hM21
 refine ⟨_, rfl, ?_⟩
 intro a A
 refine sdm A λa A↦?_
 iterate 2 refine sdo A (zb (vs := [.agg (d2.d.cells d2.ts.length).toArray, iV 0]) rfl rfl) λa A↦?_
 refine zy (vs := (jq.d.cells jq.ts.length)) (t := 42) A M rfl rfl rfl pg (zv (z := .agg (jq.d.cells jq.ts.length).toArray) (by kernel_rfl) rfl) (by decide) ?_
 intro g23 w24 M a A
 refine zq (L' := (.obj g23 (.cells (d2.d.cells d2.ts.length).toArray 42) :: .row 42 11 (.slice (aO g16) 1 1) 1 (cellsOf [(kD 2 1)]) :: .row 4 1 (.slice (aO g11) 1 1) 1 (E.boolC [true]) :: .row 9 1 (.slice (aO g9) 1 1) 1 (E.strC [⟨#[120]⟩]) :: (P2.pcs g4 ++ (F2 ++ (F1 ++ []))))) A M rfl rfl (za rfl rfl rfl (by kernel_rfl) M 0 rfl rfl rfl) 0 rfl rfl rfl ?_
 intro w25 M
 refine sda A λa A↦?_
 refine qa (hK20 _ _ (wsk fun K26 hK26 => wrl (sdm A λa A↦?_)))
 refine sdo (v := bV true) A (qg rfl rfl (fun w => by kernel_rfl)) λa A↦?_
 iterate 2 refine sdm A λa A↦?_
 refine sdo (v := bV true) A (qg rfl rfl (fun w => by kernel_rfl)) λa A↦?_
 refine sdk (v := bV true) A λa A↦?_
 iterate 2 refine sdm A λa A↦?_
 refine sdo (v := bV true) A (qg rfl rfl (fun w => by kernel_rfl)) λa A↦?_
 refine sdk (v := bV true) A λa A↦?_
 refine sdm A λa A↦?_
 refine sdo (v := pA g23 1) A (qb xy rfl rfl) λa A↦?_
 refine sdo A (qh M o93 rfl 0 rfl rfl) λa A↦?_
 refine sdo (v := bV true) A (qg rfl rfl (fun w => (qr w).trans (by rw [show ((d2.d.n == 1)) = true from (by rw [hn2]; rfl)]))) λa A↦?_
 refine sdk (v := bV true) A λa A↦?_
 refine sda A λa A↦?_
 refine qa (hK26 _ _ (wp_ret (hret _ _ (en1 A rfl (qf rfl) ?_))))
 exact ⟨rfl, M.bel⟩
end Go.Proofs.YtokgmpjblnpjmaaGreatDoor.G
namespace Go.Proofs.YtokgmpjblnpjmaaGreatDoor.G.E
open Go.RowKit Go.Lib Go.Sort
set_option linter.unusedVariables false
set_option linter.unusedSimpArgs false
set_option maxRecDepth 100000
theorem EnE_is1_9 : Is1 Tryz.prog 9 := ⟨⟨_, Tryz.underlying9, rfl⟩, by kernel_rfl⟩
theorem ut {w : World} {so : Option Addr} {ca : Nat} {l : List ByteArray} (hR : Rs w so l) (hl : l.length ≤ 8796093021952) {s : ByteArray} : Calls Tryz.prog 55 #[.slice so l.length ca, .string s] w fun e w' => e = .returned (iV (idxOfS l s)) ∧ Below w.heap.size w w' := by
 have M : Mg w w ([]) := Mg.start w
 refine qs (l := [(0, .slice so l.length ca), (1, .string s)]) Tryz.func55 rfl Tryz.ntmps55 rfl rfl ?_
 intro Q hret hnorm hP a A
 refine wsk fun K1 hK1 => wrl (sda A λa A↦?_)
 refine qa (hK1 _ _ (wsk fun K2 hK2 => wsk fun K3 hK3 => wrl (sda A λa A↦?_)))
 refine qa (hK3 _ _ (wp_block (zt (fun m_ a w1 => ∃ (i : Nat), m_ = 1 + (l.length - i) ∧ (i ≤ l.length ∧ ∀ (j : Nat) u, j < i → l[j]? = some u → u ≠ s) ∧ Sl a 19 [(0, .slice so l.length ca), (1, .string s), (5, iV (((i : Nat) : Int)))] ∧ Mg w w1 ([])) _ ⟨0, rfl, ⟨Nat.zero_le _, fun j u h => absurd h (Nat.not_lt_zero _)⟩, A.keep _ ⟨rfl, rfl, rfl, trivial⟩, M⟩ ?_)))
 clear M A
 rintro m_ a w4 ⟨i, rfl, hinv6, A, M⟩ K5 hK5
 obtain ⟨hi0, hin9⟩ := hinv6
 refine wsk fun K7 hK7 => wsk fun K8 hK8 => wrl ?_
 iterate 2 refine sdm A λa A↦?_
 refine sdo A (qn Tryz.underlying30 rfl) λa A↦?_
 rcases tf (decide (((i : Nat) : Int) < ((l.length : Nat) : Int))) with hb9 | hb9
 ·
  have hb9' := of_decide_eq_true hb9
  refine sdc A qw hb9 λa A↦?_
  refine qa (hK8 _ _ (wp_cond_true (A.ev rfl) ?_))
  refine wp_skip (hK7 _ _ (wsk fun K10 hK10 => wp_block (wsk fun K11 hK11 => wrl ?_)))
  iterate 2 refine sdm A λa A↦?_
  obtain ⟨bx12, ox13, sx14, hs15, hc16, hi17⟩ := hR.at_ (i := i) (by omega)
  refine sdo (v := pA bx12 (ox13 + i)) A (zk (k := i) Tryz.underlying30 (by kernel_rfl) rfl rfl (by first | rfl | omega) hs15 (by omega)) λa A↦?_
  refine sdo A (m_loadX M hc16 EnE_is1_9 rfl) λa A↦?_
  refine sdm A λa A↦?_
  rcases tf (decide (sx14 = s)) with hb18 | hb18
  ·
   have hb18' := of_decide_eq_true hb18
   refine sdo (v := bV true) A (qg rfl rfl (fun w => (xk Tryz.underlying9 w).trans (by rw [hb18]))) λa A↦?_
   refine qa (hK11 _ _ (wp_cond_true (A.ev rfl) ?_))
   refine wsk fun K19 hK19 => wrl (sdm A λa A↦?_)
   refine sda A λa A↦?_
   refine qa (hK19 _ _ (wp_ret (hret _ _ (en1 A rfl (qf rfl) ?_))))
   exact ⟨by rw [qjj (s := s) (by rw [hi17, hb18']) hin9], M.bel⟩
  ·
   have hb18' := of_decide_eq_false hb18
   refine sdo (v := bV false) A (qg rfl rfl (fun w => (xk Tryz.underlying9 w).trans (by rw [hb18]))) λa A↦?_
   refine qa (hK11 _ _ (wp_cond_false (A.ev rfl) ?_))
   refine wp_skip (hK10 _ _ (wrl (sdm A λa A↦?_)))
   refine sdo (v := iV (((i + 1 : Nat) : Int))) A (qg rfl rfl (ar_add ((in_i64 (by omega) (by omega)).trans (by omega)))) λa A↦?_
   refine sda A λa A↦?_
   refine qa ?_
   refine hK5 _ _ _ (by omega) ⟨i + 1, rfl, ⟨by omega, fun j u hj hu => if h9 : j < i then hin9 j u h9 hu else by have h8 : j = i := (by omega); subst h8; rw [hi17] at hu; rw [← Option.some.inj hu]; exact hb18'⟩, A.keep _ ⟨rfl, rfl, rfl, trivial⟩, M⟩
 ·
  have hb9' := of_decide_eq_false hb9
  refine sdc A qw hb9 λa A↦?_
  refine qa (hK8 _ _ (wp_cond_false (A.ev rfl) ?_))
  refine wp_exit (hK2 _ _ (wsk fun K20 hK20 => wrl (sda A λa A↦?_)))
  refine qa (hK20 _ _ (wp_ret (hret _ _ (en1 A rfl (qf rfl) ?_))))
  exact ⟨by rw [qfi (fun j u hj => hin9 j u (by omega))], M.bel⟩
theorem rtwice_any {w : World} {so : Option Addr} {ca : Nat} {l : List ByteArray} (hR : Rs w so l) (hl : l.length ≤ 8796093021952) : Calls Tryz.prog 30 #[.slice so l.length ca] w fun e w' => e = .returned (bV (twS l)) ∧ Below w.heap.size w w' := by
 have M : Mg w w ([]) := Mg.start w
 refine qs (l := [(0, .slice so l.length ca)]) Tryz.func30 rfl Tryz.ntmps30 rfl rfl ?_
 intro Q hret hnorm hP a A
 refine wsk fun K1 hK1 => wrl (sda A λa A↦?_)
 refine qa (hK1 _ _ (wsk fun K2 hK2 => wsk fun K3 hK3 => wrl (sda A λa A↦?_)))
 refine qa (hK3 _ _ (wp_block (zt (fun m_ a w1 => ∃ (i : Nat), m_ = 1 + (l.length - i) ∧ (i ≤ l.length ∧ ∀ (j : Nat) u, j < i → l[j]? = some u → ((j : Nat) : Int) ≤ idxOfS l u) ∧ Sl a 18 [(0, .slice so l.length ca), (3, iV (((i : Nat) : Int)))] ∧ Mg w w1 ([])) _ ⟨0, rfl, ⟨Nat.zero_le _, fun j u h => absurd h (Nat.not_lt_zero _)⟩, A.keep _ ⟨rfl, rfl, trivial⟩, M⟩ ?_)))
 clear M A
 rintro m_ a w4 ⟨i, rfl, hinv6, A, M⟩ K5 hK5
 obtain ⟨hi0, hin9⟩ := hinv6
 refine wsk fun K7 hK7 => wsk fun K8 hK8 => wrl ?_
 iterate 2 refine sdm A λa A↦?_
 refine sdo A (qn Tryz.underlying30 rfl) λa A↦?_
 rcases tf (decide (((i : Nat) : Int) < ((l.length : Nat) : Int))) with hb9 | hb9
 ·
  have hb9' := of_decide_eq_true hb9
  refine sdc A qw hb9 λa A↦?_
  refine qa (hK8 _ _ (wp_cond_true (A.ev rfl) ?_))
  refine wp_skip (hK7 _ _ (wsk fun K10 hK10 => wp_block (wsk fun K11 hK11 => wrl ?_)))
  iterate 3 refine sdm A λa A↦?_
  obtain ⟨bx12, ox13, sx14, hs15, hc16, hi17⟩ := hR.at_ (i := i) (by omega)
  refine sdo (v := pA bx12 (ox13 + i)) A (zk (k := i) Tryz.underlying30 (by kernel_rfl) rfl rfl (by first | rfl | omega) hs15 (by omega)) λa A↦?_
  refine sdo A (m_loadX M hc16 EnE_is1_9 rfl) λa A↦?_
  refine gcl A M (ef rfl rfl) (ut (hR.below M.bel) hl) fun w19 hb18 M a A => ?_
  refine sdm A λa A↦?_
  rcases tf (decide (idxOfS l sx14 < ((i : Nat) : Int))) with hb20 | hb20
  ·
   have hb20' := of_decide_eq_true hb20
   refine sdc A qw hb20 λa A↦?_
   refine qa (hK11 _ _ (wp_cond_true (A.ev rfl) ?_))
   refine wsk fun K21 hK21 => wrl (sda A λa A↦?_)
   refine qa (hK21 _ _ (wp_ret (hret _ _ (en1 A rfl (qf rfl) ?_))))
   refine ⟨?_, M.bel⟩
   rw [zya hi17 hb20']
  ·
   have hb20' := of_decide_eq_false hb20
   refine sdc A qw hb20 λa A↦?_
   refine qa (hK11 _ _ (wp_cond_false (A.ev rfl) ?_))
   refine wp_skip (hK10 _ _ (wrl (sdm A λa A↦?_)))
   refine sdo (v := iV (((i + 1 : Nat) : Int))) A (qg rfl rfl (ar_add ((in_i64 (by omega) (by omega)).trans (by omega)))) λa A↦?_
   refine sda A λa A↦?_
   refine qa ?_
   refine hK5 _ _ _ (by omega) ⟨i + 1, rfl, ⟨by omega, fun j u hj hu => if h9 : j < i then hin9 j u h9 hu else by have h8 : j = i := (by omega); subst h8; rw [hi17] at hu; rw [← Option.some.inj hu]; omega⟩, A.keep _ ⟨rfl, rfl, trivial⟩, M⟩
 ·
  have hb9' := of_decide_eq_false hb9
  refine sdc A qw hb9 λa A↦?_
  refine qa (hK8 _ _ (wp_cond_false (A.ev rfl) ?_))
  refine wp_exit (hK2 _ _ (wsk fun K22 hK22 => wrl (sda A λa A↦?_)))
  refine qa (hK22 _ _ (wp_ret (hret _ _ (en1 A rfl (qf rfl) ?_))))
  refine ⟨?_, M.bel⟩
  rw [zth (fun j u hj => hin9 j u (by have := (List.getElem?_eq_some_iff.1 hj).1; omega) hj)]
theorem zlb {w : World} {so : Option Addr} {ca : Nat} {l : List ByteArray} (hR : Rs w so l) (hl : l.length ≤ 8796093021952) {so2 : Option Addr} {ca2 : Nat} {l2 : List ByteArray} (hR2 : Rs w so2 l2) (hl2 : l2.length ≤ 8796093021952) : Calls Tryz.prog 47 #[.slice so l.length ca, .slice so2 l2.length ca2] w fun e w' => e = .returned (bV (decide (l = l2))) ∧ Below w.heap.size w w' := by
 have M : Mg w w ([]) := Mg.start w
 refine qs (l := [(0, .slice so l.length ca), (1, .slice so2 l2.length ca2)]) Tryz.func47 rfl Tryz.ntmps47 rfl rfl ?_
 intro Q hret hnorm hP a A
 refine wsk fun K1 hK1 => wrl (sda A λa A↦?_)
 refine qa (hK1 _ _ (wsk fun K2 hK2 => wsk fun K3 hK3 => wrl (sdm A λa A↦?_)))
 refine sdo A (qn Tryz.underlying30 rfl) λa A↦?_
 refine sdm A λa A↦?_
 refine sdo A (qn Tryz.underlying30 rfl) λa A↦?_
 rcases tf ((((l.length : Nat) : Int) != ((l2.length : Nat) : Int))) with hb4 | hb4
 ·
  have hb4' := bne_iff_ne.1 hb4
  refine sdc A zg hb4 λa A↦?_
  refine qa (hK3 _ _ (wp_cond_true (A.ev rfl) ?_))
  refine wsk fun K5 hK5 => wrl (sda A λa A↦?_)
  refine qa (hK5 _ _ (wp_ret (hret _ _ (en1 A rfl (qf rfl) ?_))))
  refine ⟨?_, M.bel⟩
  rw [decide_eq_false (fun e9 => by rw [e9] at hb4'; exact hb4' rfl)]
 ·
  have hb4' := bne_eq_false_iff_eq.1 hb4
  refine sdc A zg hb4 λa A↦?_
  refine qa (hK3 _ _ (wp_cond_false (A.ev rfl) ?_))
  refine wp_skip (hK2 _ _ (wsk fun K6 hK6 => wsk fun K7 hK7 => wrl (sda A λa A↦?_)))
  refine qa (hK7 _ _ (wp_block (zt (fun m_ a w1 => ∃ (i : Nat), m_ = 1 + (l.length - i) ∧ (i ≤ l.length ∧ ∀ j : Nat, j < i → l[j]? = l2[j]?) ∧ Sl a 26 [(0, .slice so l.length ca), (1, .slice so2 l2.length ca2), (5, iV (((i : Nat) : Int))), (6, .slice so l.length ca), (7, iV (((l.length : Nat) : Int))), (8, .slice so2 l2.length ca2), (9, iV (((l2.length : Nat) : Int))), (10, bV false)] ∧ Mg w w1 ([])) _ ⟨0, rfl, ⟨Nat.zero_le _, fun j h => absurd h (Nat.not_lt_zero _)⟩, A.keep _ (by repeat' constructor), M⟩ ?_)))
  clear M A
  rintro m_ a w8 ⟨i, rfl, hinv10, A, M⟩ K9 hK9
  obtain ⟨hi0, hin9⟩ := hinv10
  refine wsk fun K11 hK11 => wsk fun K12 hK12 => wrl ?_
  iterate 2 refine sdm A λa A↦?_
  refine sdo A (qn Tryz.underlying30 rfl) λa A↦?_
  refine sdo (v := bV (decide (((i : Nat) : Int) < ((l.length : Nat) : Int)))) A (qg rfl rfl qw) λa A↦?_
  refine qa (hK12 _ _ ?_)
  refine wp_cond_split (t := decide (((i : Nat) : Int) < ((l.length : Nat) : Int))) (A.ev rfl) (fun hc13 => ?_) (fun hc13 => ?_)
  ·
   have hc13' := of_decide_eq_true hc13
   refine wp_skip (hK11 _ _ (wsk fun K14 hK14 => wp_block (wsk fun K15 hK15 => zp (S := fun w1 => Mg w w1 ([])) (by kernel_rfl) ?_)))
   replace M := M.drew
   refine qe A 0 rfl rfl rfl rfl hP (M.sub ns) (λ_ M↦ql rfl) λa A↦?_
   refine qe A 1 rfl rfl rfl rfl hP (M.sub ns) (λ_ M↦ql rfl) λa A↦?_
   obtain ⟨bx16, ox17, sx18, hs19, hc20, hi21⟩ := hR.at_ (i := i) (by omega)
   refine qe (v := pA bx16 (ox17 + i)) A 2 rfl rfl rfl rfl hP (M.sub ns) (λ_ M↦zk (k := i) Tryz.underlying30 (by kernel_rfl) rfl rfl (by first | rfl | omega) hs19 (by omega)) λa A↦?_
   refine qe A 3 rfl rfl rfl rfl hP (M.sub ns) (λ_ M↦m_loadX M hc20 EnE_is1_9 rfl) λa A↦?_
   refine qe A 4 rfl rfl rfl rfl hP (M.sub ns) (λ_ M↦ql rfl) λa A↦?_
   refine qe A 5 rfl rfl rfl rfl hP (M.sub ns) (λ_ M↦ql rfl) λa A↦?_
   obtain ⟨bx22, ox23, sx24, hs25, hc26, hi27⟩ := hR2.at_ (i := i) (by omega)
   refine qe (v := pA bx22 (ox23 + i)) A 6 rfl rfl rfl rfl hP (M.sub ns) (λ_ M↦zk (k := i) Tryz.underlying30 (by kernel_rfl) rfl rfl (by first | rfl | omega) hs25 (by omega)) λa A↦?_
   refine qe A 7 rfl rfl rfl rfl hP (M.sub ns) (λ_ M↦m_loadX M hc26 EnE_is1_9 rfl) λa A↦?_
   rcases tf (decide (sx18 = sx24)) with hb28 | hb28
   ·
    have hb28' := of_decide_eq_true hb28
    refine qe (v := bV false) A 8 rfl rfl rfl rfl hP (M.sub ns) (λ_ M↦qg rfl rfl (fun w => (xe Tryz.underlying9 w).trans (by rw [hb28]; rfl))) λa A↦?_
    refine ze (by kernel_rfl) ?_
    refine hK15 _ _ (wp_cond_false (A.ev rfl) ?_)
    refine wp_skip (hK14 _ _ (wrl (sdm A λa A↦?_)))
    refine sdo (v := iV (((i + 1 : Nat) : Int))) A (qg rfl rfl (ar_add ((in_i64 (by omega) (by omega)).trans (by omega)))) λa A↦?_
    refine sda A λa A↦?_
    refine qa ?_
    refine hK9 _ _ _ (by omega) ⟨i + 1, rfl, ⟨by omega, fun j hj => if h9 : j < i then hin9 j h9 else by have h8 : j = i := (by omega); subst h8; rw [hi21, hi27, hb28']⟩, A.keep _ (by repeat' constructor), M⟩
   ·
    have hb28' := of_decide_eq_false hb28
    refine qe (v := bV true) A 8 rfl rfl rfl rfl hP (M.sub ns) (λ_ M↦qg rfl rfl (fun w => (xe Tryz.underlying9 w).trans (by rw [hb28]; rfl))) λa A↦?_
    refine ze (by kernel_rfl) ?_
    refine hK15 _ _ (wp_cond_true (A.ev rfl) ?_)
    refine wsk fun K29 hK29 => wrl (sda A λa A↦?_)
    refine qa (hK29 _ _ (wp_ret (hret _ _ (en1 A rfl (qf rfl) ?_))))
    refine ⟨?_, M.bel⟩
    rw [decide_eq_false (fun e9 => hb28' (by rw [e9, hi27] at hi21; exact (Option.some.inj hi21).symm))]
  ·
   have hc13' := of_decide_eq_false hc13
   refine wp_exit (hK6 _ _ (wsk fun K30 hK30 => wrl (sda A λa A↦?_)))
   refine qa (hK30 _ _ (wp_ret (hret _ _ (en1 A rfl (qf rfl) ?_))))
   refine ⟨?_, M.bel⟩
   rw [decide_eq_true (List.ext_getElem? fun j => if h9 : j < i then hin9 j h9 else by rw [List.getElem?_eq_none (by omega), List.getElem?_eq_none (by omega)])]
theorem sameT_as {w : World} {so : Option Addr} {ca : Nat} {l : List ByteArray} (hR : Rs w so l) (hl : l.length ≤ 8796093021952) {so2 : Option Addr} {ca2 : Nat} {l2 : List ByteArray} (hR2 : Rs w so2 l2) (hl2 : l2.length ≤ 8796093021952) {b : Bool} (h : decide (l = l2) = b) : Calls Tryz.prog 47 #[.slice so l.length ca, .slice so2 l2.length ca2] w fun e w' => e = .returned (bV b) ∧ Below w.heap.size w w' := h ▸ zlb hR hl hR2 hl2
end Go.Proofs.YtokgmpjblnpjmaaGreatDoor.G.E
namespace Go.Proofs.YtokgmpjblnpjmaaGreatDoor.G
open Go.RowKit
set_option linter.unusedVariables false
set_option linter.unusedSimpArgs false
set_option maxRecDepth 100000


end Go.Proofs.YtokgmpjblnpjmaaGreatDoor.G
namespace Go.Proofs.YtokgmpjblnpjmaaGreatDoor
open Go.RowKit
set_option linter.unusedVariables false
set_option linter.unusedSimpArgs false
set_option maxRecDepth 100000
theorem EqO_fld_39_0 : FieldAt Tryz.prog 39 0 0 := ⟨_, _, Tryz.underlying39, rfl, rfl, by kernel_rfl⟩
theorem EqO_fld_39_1 : FieldAt Tryz.prog 39 1 3 := ⟨_, _, Tryz.underlying39, rfl, rfl, by kernel_rfl⟩
theorem EqO_isS_37 : IsS Tryz.prog 37 3 := ⟨⟨_, Tryz.underlying37⟩, by kernel_rfl⟩
theorem zej {w : World} {p q : Q6} {a1 a2 a3 a4 : Option Addr} {ac1 ac2 ac3 ac4 : Nat} (ha : Nm w p a1 ac1 a2 ac2 a3 ac3 a4 ac4) (hl : LenQ p) {u1 u2 u3 u4 : Option Addr} {uc1 uc2 uc3 uc4 : Nat} (hu : Nm w q u1 uc1 u2 uc2 u3 uc3 u4 uc4) (hm : LenQ q) {r : Bool} (hr : (vy p.b1 p.t1 p.q1 q.b1 q.t1 q.q1 && vy p.b2 p.t2 p.q2 q.b2 q.t2 q.q2) = r) : Calls Tryz.prog 40 #[zna p a1 ac1 a2 ac2 a3 ac3 a4 ac4, zna q u1 uc1 u2 uc2 u3 uc3 u4 uc4] w fun e w' => e = .returned (bV r) ∧ Below w.heap.size w w' := by
 have S : St w w [] [(u4, q.q2), (u3, q.t2), (u2, q.q1), (u1, q.t1), (a4, p.q2), (a3, p.t2), (a2, p.q1), (a1, p.t1)] [] := ((((((((St.start w).addR ha.s1.rd).addR ha.s2.rd).addR ha.s3.rd).addR ha.s4.rd).addR hu.s1.rd).addR hu.s2.rd).addR hu.s3.rd).addR hu.s4.rd
 refine qs (l := [(0, .agg #[bV p.b1, .slice a1 p.t1.length ac1, .slice a2 p.q1.length ac2, bV p.b2, .slice a3 p.t2.length ac3, .slice a4 p.q2.length ac4]), (1, .agg #[bV q.b1, .slice u1 q.t1.length uc1, .slice u2 q.q1.length uc2, bV q.b2, .slice u3 q.t2.length uc3, .slice u4 q.q2.length uc4])]) Tryz.func40 rfl Tryz.ntmps40 rfl rfl ?_
 intro Q hret hnorm hP a A
 refine wsk fun K1 hK1 => wrl (yd A S rfl rfl rfl pg (zf rfl rfl) rfl ?_)
 intro g2 w3 S a A
 refine yd A S rfl rfl rfl pg (zf rfl rfl) rfl ?_
 intro g4 w5 S a A
 refine sda A λa A↦?_
 refine qa (hK1 _ _ (wsk fun K6 hK6 => wrl (sdo (v := pA g2 0) A (qb EqO_fld_39_0 rfl rfl) λa A↦?_)))
 refine sdo A (kg S EqO_isS_37 rfl 1 rfl (cs := [bV p.b1, .slice a1 p.t1.length ac1, .slice a2 p.q1.length ac2]) rfl rfl) λa A↦?_
 refine sdo (v := pA g4 0) A (qb EqO_fld_39_0 rfl rfl) λa A↦?_
 refine sdo A (kg S EqO_isS_37 rfl 0 rfl (cs := [bV q.b1, .slice u1 q.t1.length uc1, .slice u2 q.q1.length uc2]) rfl rfl) λa A↦?_
 rcases tf (vy p.b1 p.t1 p.q1 q.b1 q.t1 q.q1) with hb7 | hb7
 ·
  refine sct A (ef rfl rfl) (ue ⟨(S.rd 7 rfl), ha.s1.nil, ha.s1.cap⟩ ⟨(S.rd 6 rfl), ha.s2.nil, ha.s2.cap⟩ ⟨(S.rd 3 rfl), hu.s1.nil, hu.s1.cap⟩ ⟨(S.rd 2 rfl), hu.s2.nil, hu.s2.cap⟩ hl.l1 hl.l2 hm.l1 hm.l2 hb7) ?_
  rintro _ w9 ⟨rfl, hb8⟩
  replace S := S.call hb8
  refine ⟨_, rfl, ?_⟩
  intro a A
  refine sdm A λa A↦?_
  refine sdo (v := pA g2 3) A (qb EqO_fld_39_1 rfl rfl) λa A↦?_
  refine sdo A (kg S EqO_isS_37 rfl 1 rfl (cs := [bV p.b2, .slice a3 p.t2.length ac3, .slice a4 p.q2.length ac4]) rfl rfl) λa A↦?_
  refine sdo (v := pA g4 3) A (qb EqO_fld_39_1 rfl rfl) λa A↦?_
  refine sdo A (kg S EqO_isS_37 rfl 0 rfl (cs := [bV q.b2, .slice u3 q.t2.length uc3, .slice u4 q.q2.length uc4]) rfl rfl) λa A↦?_
  rcases tf (vy p.b2 p.t2 p.q2 q.b2 q.t2 q.q2) with hb10 | hb10
  ·
   refine sct A (ef rfl rfl) (ue ⟨(S.rd 5 rfl), ha.s3.nil, ha.s3.cap⟩ ⟨(S.rd 4 rfl), ha.s4.nil, ha.s4.cap⟩ ⟨(S.rd 1 rfl), hu.s3.nil, hu.s3.cap⟩ ⟨(S.rd 0 rfl), hu.s4.nil, hu.s4.cap⟩ hl.l3 hl.l4 hm.l3 hm.l4 hb10) ?_
   rintro _ w12 ⟨rfl, hb11⟩
   replace S := S.call hb11
   refine ⟨_, rfl, ?_⟩
   intro a A
   refine sdk (v := bV true) A λa A↦?_
   refine sda A λa A↦?_
   refine qa (hK6 _ _ (wp_ret (hret _ _ (en1 A rfl (qf rfl) ?_))))
   subst hr
   exact ⟨by rw [hb7, hb10]; try rfl, S.bel⟩
  ·
   refine sct A (ef rfl rfl) (ue ⟨(S.rd 5 rfl), ha.s3.nil, ha.s3.cap⟩ ⟨(S.rd 4 rfl), ha.s4.nil, ha.s4.cap⟩ ⟨(S.rd 1 rfl), hu.s3.nil, hu.s3.cap⟩ ⟨(S.rd 0 rfl), hu.s4.nil, hu.s4.cap⟩ hl.l3 hl.l4 hm.l3 hm.l4 hb10) ?_
   rintro _ w14 ⟨rfl, hb13⟩
   replace S := S.call hb13
   refine ⟨_, rfl, ?_⟩
   intro a A
   refine sdk (v := bV false) A λa A↦?_
   refine sda A λa A↦?_
   refine qa (hK6 _ _ (wp_ret (hret _ _ (en1 A rfl (qf rfl) ?_))))
   subst hr
   exact ⟨by rw [hb7, hb10]; try rfl, S.bel⟩
 ·
  refine sct A (ef rfl rfl) (ue ⟨(S.rd 7 rfl), ha.s1.nil, ha.s1.cap⟩ ⟨(S.rd 6 rfl), ha.s2.nil, ha.s2.cap⟩ ⟨(S.rd 3 rfl), hu.s1.nil, hu.s1.cap⟩ ⟨(S.rd 2 rfl), hu.s2.nil, hu.s2.cap⟩ hl.l1 hl.l2 hm.l1 hm.l2 hb7) ?_
  rintro _ w16 ⟨rfl, hb15⟩
  replace S := S.call hb15
  refine ⟨_, rfl, ?_⟩
  intro a A
  refine sdm A λa A↦?_
  iterate 5 refine qj A rfl rfl rfl λa A↦?_
  refine sdk (v := bV false) A λa A↦?_
  refine sda A λa A↦?_
  refine qa (hK6 _ _ (wp_ret (hret _ _ (en1 A rfl (qf rfl) ?_))))
  subst hr
  exact ⟨by rw [hb7]; try rfl, S.bel⟩

end Go.Proofs.YtokgmpjblnpjmaaGreatDoor
namespace Go.Proofs.YtokgmpjblnpjmaaGreatDoor.G
open Go.RowKit
set_option linter.unusedVariables false
set_option linter.unusedSimpArgs false
/-! ### The same trees, by the document -/
mutual
def uu : Tr → Tr → Bool
  | .mk k n q s rl ts, u => (decide (k = u.k) && (decide (n = u.n) && (decide (s = u.s) && (decide (rl = u.rl) && (vy q.b1 q.t1 q.q1 u.q.b1 u.q.t1 u.q.q1 && vy q.b2 q.t2 q.q2 u.q.b2 u.q.t2 u.q.q2))))) && (decide (ts.length = u.ts.length) && kz ts u.ts)
def kz : List Tr → List Tr → Bool
  | [], _ => true
  | _ :: _, [] => true
  | t :: ts, u :: us => uu t u && kz ts us
end
theorem zld {b b' : Bool} {t q t' q' : List Nat} : vy b t q b' t' q' = true ↔ b = b' ∧ t = t' ∧ q = q' := by
  unfold vy
  simp
theorem zqg (k n : Int) (q : Q6) (s : ByteArray) (rl : List UInt8) (ts : List Tr) (k' n' : Int) (q' : Q6) (s' : ByteArray) (rl' : List UInt8) (ts' : List Tr) : uu (.mk k n q s rl ts) (.mk k' n' q' s' rl' ts') = true ↔ k = k' ∧ n = n' ∧ q = q' ∧ s = s' ∧ rl = rl' ∧ ts.length = ts'.length ∧ kz ts ts' = true := by
  rw [uu]
  show ((decide (k = k') && (decide (n = n') && (decide (s = s') && (decide (rl = rl') && (vy q.b1 q.t1 q.q1 q'.b1 q'.t1 q'.q1 && vy q.b2 q.t2 q.q2 q'.b2 q'.t2 q'.q2))))) && (decide (ts.length = ts'.length) && kz ts ts')) = true ↔ _
  simp only [Bool.and_eq_true, decide_eq_true_eq, zld]
  constructor
  · rintro ⟨⟨a, b, c, d, ⟨e1, e2, e3⟩, f1, f2, f3⟩, g, h⟩
    refine ⟨a, b, ?_, c, d, g, h⟩
    cases q; cases q'
    simp_all
  · rintro ⟨a, b, c, d, e, f, g⟩
    subst c
    exact ⟨⟨a, b, d, e, ⟨rfl, rfl, rfl⟩, rfl, rfl, rfl⟩, f, g⟩
theorem qzi {ts : List Tr} (h : ∀ t ∈ ts, ∀ u, uu t u = true ↔ t = u) : ∀ us : List Tr, ts.length = us.length → (kz ts us = true ↔ ts = us) := by
  induction ts with
  | nil =>
    intro us hl
    cases us with
    | nil => simp [kz]
    | cons u us => simp at hl
  | cons t ts ih =>
    intro us hl
    cases us with
    | nil => simp at hl
    | cons u us =>
      rw [kz, Bool.and_eq_true, h t List.mem_cons_self u, ih (fun x hx => h x (List.mem_cons_of_mem _ hx)) us (by simpa using hl)]
      simp
theorem zqh : ∀ t u : Tr, uu t u = true ↔ t = u := by
  refine Tr.indT fun k n q s rl ts ih u => ?_
  obtain ⟨k', n', q', s', rl', ts'⟩ := u
  rw [zqg]
  constructor
  · rintro ⟨a, b, c, d, e, f, g⟩
    rw [a, b, c, d, e, (qzi ih ts' f).1 g]
  · intro h
    cases h
    exact ⟨rfl, rfl, rfl, rfl, rfl, rfl, (qzi ih ts rfl).2 rfl⟩
theorem qzj {ts us : List Dt} {i : Nat} {t u : Dt} (hi : ts[i]? = some t) (hj : us[i]? = some u) : kz ((ts.map Dt.tr).drop i) ((us.map Dt.tr).drop i) = (uu t.tr u.tr && kz ((ts.map Dt.tr).drop (i + 1)) ((us.map Dt.tr).drop (i + 1))) := by
  rw [ul hi, ul hj, kz]
theorem zle {ts us : List Dt} {i : Nat} (h : ¬ i < ts.length) : kz ((ts.map Dt.tr).drop i) ((us.map Dt.tr).drop i) = true := by
  rw [qcc h, kz]
theorem zaa (p r : Dt) : uu p.tr r.tr = ((decide (p.d.k = r.d.k) && (decide (p.d.n = r.d.n) && (decide (p.d.s = r.d.s) && (decide (p.d.rl = r.d.rl) && (vy p.d.y.q.b1 p.d.y.q.t1 p.d.y.q.q1 r.d.y.q.b1 r.d.y.q.t1 r.d.y.q.q1 && vy p.d.y.q.b2 p.d.y.q.t2 p.d.y.q.q2 r.d.y.q.b2 r.d.y.q.t2 r.d.y.q.q2))))) && (decide (p.ts.length = r.ts.length) && kz (p.ts.map Dt.tr) (r.ts.map Dt.tr))) := by
  rw [Dt.tr_eta p, Dt.tr_eta r, uu, List.length_map]
  show _ = (_ && (decide (p.ts.length = r.ts.length) && _))
  rw [show (Tr.mk r.d.k r.d.n r.d.y.q r.d.s r.d.rl (r.ts.map Dt.tr)).ts.length = r.ts.length from List.length_map _]
  rfl
def SQ2 (p r : Dt) : Bool := vy p.d.y.q.b1 p.d.y.q.t1 p.d.y.q.q1 r.d.y.q.b1 r.d.y.q.t1 r.d.y.q.q1 && vy p.d.y.q.b2 p.d.y.q.t2 p.d.y.q.q2 r.d.y.q.b2 r.d.y.q.t2 r.d.y.q.q2
theorem qag {p r : Dt} (h : p.d.k ≠ r.d.k ∨ p.d.n ≠ r.d.n ∨ p.d.s ≠ r.d.s ∨ p.d.rl ≠ r.d.rl ∨ p.ts.length ≠ r.ts.length ∨ SQ2 p r = false) : uu p.tr r.tr = false := by
  rw [zaa]
  unfold SQ2 at h
  rcases h with h | h | h | h | h | h <;> simp [h]
theorem zqi {p r : Dt} (h1 : p.d.k = r.d.k) (h2 : p.d.n = r.d.n) (h3 : p.d.s = r.d.s) (h4 : p.d.rl = r.d.rl) (h5 : p.ts.length = r.ts.length) (h6 : SQ2 p r = true) : uu p.tr r.tr = kz (p.ts.map Dt.tr) (r.ts.map Dt.tr) := by
  rw [zaa]
  unfold SQ2 at h6
  rw [decide_eq_true h1, decide_eq_true h2, decide_eq_true h3, decide_eq_true h4, decide_eq_true h5, h6]
  simp
theorem zlf {a b : List UInt8} (hl : a.length = b.length) (h : ∀ j, j < a.length → a.getD j 0 = b.getD j 0) : a = b := by
  apply List.ext_getElem hl
  intro j h1 h2
  have := h j h1
  rwa [show a.getD j 0 = a[j] from by simp [List.getD, List.getElem?_eq_getElem h1], show b.getD j 0 = b[j] from by simp [List.getD, List.getElem?_eq_getElem h2]] at this
theorem jbe {a b : List UInt8} {i : Nat} (h : (((a.getD i 0).toNat : Nat) : Int) ≠ (((b.getD i 0).toNat : Nat) : Int)) : a ≠ b := fun e => h (by rw [e])
theorem jbf {a b : UInt8} (h : ((a.toNat : Nat) : Int) = ((b.toNat : Nat) : Int)) : a = b := UInt8.toNat_inj.1 (by omega)
end Go.Proofs.YtokgmpjblnpjmaaGreatDoor.G
