/- Walks of rows of texts: collected, sorted, copied. Walks of sets: where, sound, membership, members. Walks of the calls of enum. Walks of what a type may be, of types that are the same, and of copies. Records: what the calls answer, case by case. Walks of what is asked of a store. Records: what calls have made xh as it is; a store as pieces of memory. Walks of what changes a store. Walks of calls on a store that are refused, and of calls on nil. Records: what is so of a store xh so. Calls on a store, by its state. Bare data: characters and truth values. Walks of the law of a nil store. A chain of types, and a record of the last of them. -/
import Derived.Test.YtokgmpjblnpjmaaGreatDoorPrecord11d
namespace Go.Proofs.YtokgmpjblnpjmaaGreatDoor.G.E
open Go.RowKit Go.Lib Go.Sort
set_option linter.unusedVariables false
set_option linter.unusedSimpArgs false
set_option maxRecDepth 100000
theorem EnA_is1_9 : Is1 Tryz.prog 9 := ⟨⟨_, Tryz.underlying9, rfl⟩, by kernel_rfl⟩
theorem qjb {w : World} {Bs : Nat} {so : Option Addr} {ca : Nat} {l : List ByteArray} (hR : Rs w so l) (hBs : w.cell? ⟨Bs, 0, none⟩ = some (.slice so l.length ca)) (hl : l.length ≤ 8796093021952) : Calls Tryz.prog 98 #[.func (.func 100) #[] [.pointer (some ⟨Bs, 0, none⟩)].toArray] w fun e w' => ∃ so' ca', e = .returned (.slice so' l.length ca') ∧ Mg w w' [.row 9 1 (.slice so' l.length ca') l.length (strC l)] := by
 have M : Mg w w ([]) := Mg.start w
 refine qp (l := [(0, .func (.func 100) #[] [.pointer (some ⟨Bs, 0, none⟩)].toArray)]) Tryz.func98 rfl Tryz.ntmps98 rfl rfl ?_
 intro Q hret hnorm hP a A
 refine wsk fun K1 hK1 => wrl (sda A λa A↦?_)
 refine qa (hK1 _ _ (wsk fun K2 hK2 => wrl (sdm A λa A↦?_)))
 refine sct A (ef rfl rfl) (qdf (hR.below M.bel) ((M.bel.cell (vi hBs)).trans hBs) hl) ?_
 rintro _ w7 ⟨v3, rfl, hM4⟩
 obtain ⟨so5, ca6, rfl⟩ := zx (hM4.has 0 rfl)
 replace M : Mg w w7 (.row 9 1 (.slice so5 l.length ca6) l.length (strC l) :: []) := (M.both hM4 (qk qm) (qh (by simp) (qk qm)))
 refine ⟨_, rfl, ?_⟩
 intro a A
 refine sda A λa A↦?_
 refine qa (hK2 _ _ (wp_ret (hret _ _ (en1 A rfl (qg rfl) ?_))))
 replace M : Mg w w7 (.row 9 1 (.slice so5 l.length ca6) l.length (strC l) :: []) := by
  have h9 := M.sub (cc (.refl _))
  exact h9
 exact ⟨_, _, rfl, M⟩
theorem qlg {w : World} {Bs : Nat} {so : Option Addr} {ca : Nat} {l : List ByteArray} (hR : Rs w so l) (hBs : w.cell? ⟨Bs, 0, none⟩ = some (.slice so l.length ca)) (hl : l.length ≤ 8796093021952) : Calls Tryz.prog 89 #[.func (.func 100) #[] [.pointer (some ⟨Bs, 0, none⟩)].toArray] w fun e w' => ∃ so' ca', e = .returned (.slice so' l.length ca') ∧ Mg w w' [.row 9 1 (.slice so' l.length ca') l.length ((ko (byL l)).map encStr)] := by
 have M : Mg w w ([]) := Mg.start w
 refine qp (l := [(0, .func (.func 100) #[] [.pointer (some ⟨Bs, 0, none⟩)].toArray)]) Tryz.func89 rfl Tryz.ntmps89 rfl rfl ?_
 intro Q hret hnorm hP a A
 refine wsk fun K1 hK1 => wrl (sda A λa A↦?_)
 refine qa (hK1 _ _ (wsk fun K2 hK2 => wrl (sdm A λa A↦?_)))
 refine sct A (ef rfl rfl) (qjb (hR.below M.bel) ((M.bel.cell (vi hBs)).trans hBs) hl) ?_
 rintro _ w6 ⟨so3, ca4, rfl, hM5⟩
 replace M : Mg w w6 (.row 9 1 (.slice so3 l.length ca4) l.length (strC l) :: []) := (M.both hM5 (qk qm) (qh (by simp) (qk qm)))
 refine ⟨_, rfl, ?_⟩
 intro a A
 refine sda A λa A↦?_
 refine qa (hK2 _ _ (wsk fun K7 hK7 => wrl (sdm A λa A↦?_)))
 replace M : Mg w w6 (.row 9 1 (.slice so3 l.length ca4) l.length ((byL l).map encStr) :: []) := by rw [enc_byL]; exact M
 refine sct A (ef rfl rfl) (sortS_any (zs := byL l) (by simp [byL]) (by simpa [byL] using hl) M) ?_
 rintro _ w9 ⟨rfl, hM8⟩
 replace M : Mg w w9 (.row 9 1 (.slice so3 l.length ca4) l.length ((ko (byL l)).map encStr) :: []) := hM8
 refine ⟨_, rfl, ?_⟩
 intro a A
 refine qa (hK7 _ _ (wsk fun K10 hK10 => wrl (sdm A λa A↦?_)))
 refine sda A λa A↦?_
 refine qa (hK10 _ _ (wp_ret (hret _ _ (en1 A rfl (qg rfl) ?_))))
 replace M : Mg w w9 (.row 9 1 (.slice so3 l.length ca4) l.length ((ko (byL l)).map encStr) :: []) := by
  have h9 := M.sub (cc (.refl _))
  exact h9
 exact ⟨_, _, rfl, M⟩
theorem ul {w : World} {so : Option Addr} {ca : Nat} {l : List ByteArray} (hR : Rs w so l) (hl : l.length ≤ 8796093021952) : Calls Tryz.prog 78 #[.slice so l.length ca] w fun e w' => e = .returned (.bool (twS l)) ∧ Below w.heap.size w w' := by
 have M : Mg w w ([]) := Mg.start w
 refine qp (l := [(0, .slice so l.length ca)]) Tryz.func78 rfl Tryz.ntmps78 rfl rfl ?_
 intro Q hret hnorm hP a A
 refine wsk fun K1 hK1 => wrl (sda A λa A↦?_)
 refine qa (hK1 _ _ (wsk fun K2 hK2 => wrl (sdm A λa A↦?_)))
 refine sct A (ef rfl rfl) (qlf) ?_
 rintro _ w5 ⟨g3, rfl, hM4⟩
 replace M : Mg w w5 (.obj g3 (.cells #[.slice so l.length ca] 30) :: []) := (M.both hM4 (qk qm) (qh (by simp) (qk qm)))
 refine ⟨_, rfl, ?_⟩
 intro a A
 refine sct A (ef rfl rfl) (qlg (hR.below M.bel) (M.cell 0 rfl 0 rfl) hl) ?_
 rintro _ w9 ⟨so6, ca7, rfl, hM8⟩
 replace M : Mg w w9 (.row 9 1 (.slice so6 l.length ca7) l.length ((ko (byL l)).map encStr) :: .obj g3 (.cells #[.slice so l.length ca] 30) :: []) := (M.both hM8 (qh (by simp) (qk qm)) (qh (by simp) (qk qm)))
 refine ⟨_, rfl, ?_⟩
 intro a A
 refine sda A λa A↦?_
 refine qa (hK2 _ _ (wsk fun K10 hK10 => wrl (sdm A λa A↦?_)))
 refine sct A (ef rfl rfl) (qgi (zs := ko (byL l)) (by simp [ko, byL]) (by simpa [ko, byL] using hl) M) ?_
 rintro _ w12 ⟨rfl, hM11⟩
 replace M : Mg w w12 (.obj g3 (.cells #[.slice so l.length ca] 30) :: []) := hM11
 refine ⟨_, rfl, ?_⟩
 intro a A
 refine sdo A (qr Tryz.underlying30 rfl) λa A↦?_
 refine sdm A λa A↦?_
 refine sdo A (qr Tryz.underlying30 rfl) λa A↦?_
 refine sdo (v := .bool (decide ((((compact (ko (byL l))).length : Nat) : Int) < ((l.length : Nat) : Int)))) A (qf rfl rfl qy) λa A↦?_
 refine sda A λa A↦?_
 refine qa (hK10 _ _ (wp_ret (hret _ _ (en1 A rfl (qg rfl) ?_))))
 refine ⟨?_, M.bel⟩
 rw [← qga l]
 congr 2
 exact decide_eq_decide.2 Int.ofNat_lt
theorem clS_w {w : World} {so : Option Addr} {ca : Nat} {l : List ByteArray} (hR : Rs w so l) (hl : l.length ≤ 8796093021952) : Calls Tryz.prog 71 #[.slice so l.length ca] w fun e w' => ∃ v, e = .returned v ∧ Mg w w' [.row 9 1 v l.length (strC l)] := by
 have M : Mg w w ([]) := Mg.start w
 refine qp (l := [(0, .slice so l.length ca)]) Tryz.func71 rfl Tryz.ntmps71 rfl rfl ?_
 intro Q hret hnorm hP a A
 refine wsk fun K1 hK1 => wrl (sda A λa A↦?_)
 refine qa (hK1 _ _ (wsk fun K2 hK2 => wrl (sdm A λa A↦?_)))
 replace M := M.nilRow (qk qm) 9 1
 refine js (e := 9) (sz := 1) (k := 0) (q := 0) (m := l.length) (xs := []) (news := strC l) (L' := fun v3 => (.row 9 1 (v3) (0 + l.length) ([] ++ strC l) :: [])) A rfl rfl rfl (jw (z := .string ⟨#[]⟩) (sz := 1) (by_ := 16) Tryz.underlying30 (by kernel_rfl) rfl rfl rfl M 0 rfl rfl rfl (strC_n l) (hR.below M.bel) (strC_one l) (by omega)) (fun _ => rfl) ?_
 intro v3 w4 M a A
 refine sda A λa A↦?_
 refine qa (hK2 _ _ (wp_ret (hret _ _ (en1 A rfl (qg rfl) ?_))))
 exact ⟨_, rfl, by rw [Nat.zero_add, List.nil_append] at M; exact M⟩
theorem clone_any {w : World} {s : ByteArray} (hs : s.size ≤ 281474976710656) : Calls Tryz.prog 52 #[.string s] w fun e w' => e = .returned (.string s) ∧ Below w.heap.size w w' := by
 have M : Mg w w ([]) := Mg.start w
 refine qp (l := [(0, .string s)]) Tryz.func52 rfl Tryz.ntmps52 rfl rfl ?_
 intro Q hret hnorm hP a A
 refine wsk fun K1 hK1 => wrl (sda A λa A↦?_)
 refine qa (hK1 _ _ (wsk fun K2 hK2 => wrl (sdm A λa A↦?_)))
 refine gcl A M (ef rfl rfl) (Tryz.stringslite_Clone s _ hs) fun w3 hb1 M a A => ?_
 refine sda A λa A↦?_
 refine qa (hK2 _ _ (wp_ret (hret _ _ (en1 A rfl (qg rfl) ?_))))
 exact ⟨rfl, M.bel⟩
theorem strC_same {l : List ByteArray} {i : Nat} {s : ByteArray} (h : l[i]? = some s) : (strC l).set i (.string s) = strC l := by
 apply List.ext_getElem?
 intro j
 rw [List.getElem?_set]
 by_cases e : i = j
 ·
  subst e
  have h2 := (List.getElem?_eq_some_iff.1 h).1
  rw [if_pos rfl, if_pos (by simpa [strC] using h2)]
  simp [strC, h]
 ·
  rw [if_neg e]
theorem qlh {w : World} {so : Option Addr} {ca : Nat} {l : List ByteArray} (hR : Rs w so l) (hl : l.length ≤ 8796093021952) (hs : ∀ s ∈ l, s.size ≤ 281474976710656) (hne : l ≠ []) : Calls Tryz.prog 53 #[.slice so l.length ca] w fun e w' => ∃ so' ca', e = .returned (.slice so' l.length ca') ∧ Mg w w' [.row 9 1 (.slice so' l.length ca') l.length (strC l)] := by
 have M : Mg w w ([]) := Mg.start w
 refine qp (l := [(0, .slice so l.length ca)]) Tryz.func53 rfl Tryz.ntmps53 rfl rfl ?_
 intro Q hret hnorm hP a A
 refine wsk fun K1 hK1 => wrl (sda A λa A↦?_)
 refine qa (hK1 _ _ (wsk fun K2 hK2 => wrl (sdm A λa A↦?_)))
 refine sct A (ef rfl rfl) (clS_w (hR.below M.bel) hl) ?_
 rintro _ w4 ⟨v9, rfl, hM3⟩
 obtain ⟨g9, c9, rfl⟩ := qbe (hM3.has 0 rfl) (fun k => hne (List.length_eq_zero_iff.1 k))
 replace M : Mg w w4 (.row 9 1 (.slice (some ⟨g9, 0, none⟩) l.length c9) l.length (strC l) :: []) := hM3
 refine ⟨_, rfl, ?_⟩
 intro a A
 refine sda A λa A↦?_
 refine qa (hK2 _ _ (wsk fun K5 hK5 => wsk fun K6 hK6 => wrl (sdm A λa A↦?_)))
 refine sdo A (qr Tryz.underlying30 rfl) λa A↦?_
 refine sdm A λa A↦?_
 refine qa (hK6 _ _ (wp_block (zq (fun m_ a w1 => ∃ (i : Nat), m_ = 1 + (l.length - i) ∧ (i ≤ l.length) ∧ Sl a 22 [(0, .slice so l.length ca), (2, .slice none 0 0), (3, .slice (some ⟨g9, 0, none⟩) l.length c9), (6, .slice so l.length ca), (7, .slice (some ⟨g9, 0, none⟩) l.length c9), (8, .slice (some ⟨g9, 0, none⟩) l.length c9), (9, .int .i64 (((l.length : Nat) : Int))), (10, .int .i64 (((i : Nat) : Int)))] ∧ Mg w w1 (.row 9 1 (.slice (some ⟨g9, 0, none⟩) l.length c9) l.length (strC l) :: [])) _ ⟨0, rfl, Nat.zero_le _, A.keep _ (by repeat' constructor), M⟩ ?_)))
 clear M A
 rintro m_ a w7 ⟨i, rfl, hinv9, A, M⟩ K8 hK8
 have hi0 := hinv9
 refine wsk fun K10 hK10 => wrl ?_
 rcases tf (decide (((i : Nat) : Int) < ((l.length : Nat) : Int))) with hb11 | hb11
 ·
  have hb11' := of_decide_eq_true hb11
  refine sdc A qy hb11 λa A↦?_
  refine qa (hK10 _ _ (wsk fun K12 hK12 => wp_cond_true (A.ev rfl) ?_))
  refine wp_skip (hK12 _ _ (wsk fun K13 hK13 => wp_block (wsk fun K14 hK14 => ?_)))
  obtain ⟨s9, it9⟩ : ∃ s, l[i]? = some s := ⟨l[i], List.getElem?_eq_getElem (by omega)⟩
  refine wrl (sdm A λa A↦?_)
  refine sdo (v := .pointer (some ⟨g9, i * 1, none⟩)) A (xd (k := i) Tryz.underlying30 (by kernel_rfl) rfl rfl (by first | rfl | omega) (by first | omega | decide)) λa A↦?_
  refine sdo A (m_loadE M 0 rfl (show (strC l)[i * 1]? = some (.string s9) by rw [Nat.mul_one]; simp [strC, it9]) EnA_is1_9 rfl) λa A↦?_
  iterate 2 refine sda A λa A↦?_
  refine qa (hK14 _ _ (wrl ?_))
  iterate 3 refine sdm A λa A↦?_
  refine gcl A M (ef rfl rfl) (clone_any (hs _ (List.mem_of_getElem? it9))) fun w15 hb9 M a A => ?_
  refine sdo (v := .pointer (some ⟨g9, i * 1, none⟩)) A (xd (k := i) Tryz.underlying30 (by kernel_rfl) rfl rfl (by first | rfl | omega) (by first | omega | decide)) λa A↦?_
  refine qhg (us := []) (L' := (.row 9 1 (.slice (some ⟨g9, 0, none⟩) l.length c9) l.length (strC l) :: [])) A M rfl rfl (yg (cs := [.string s9]) rfl rfl rfl (by kernel_rfl) M 0 rfl (by show _ + 1 ≤ _; omega) rfl) 0 rfl (by rw [qie (by rw [Nat.mul_one]; simp [strC]; omega), Nat.mul_one, strC_same it9]; rfl) ?_
  intro w16 M
  refine qa (hK13 _ _ (wrl (sdo (v := .int .i64 (((i + 1 : Nat) : Int))) A (qf rfl rfl (ar_add ((in_i64 (by omega) (by omega)).trans (by omega)))) λa A↦?_)))
  refine sdm A λa A↦?_
  refine qa ?_
  refine hK8 _ _ _ (by omega) ⟨i + 1, rfl, by omega, A.keep _ (by repeat' constructor), M⟩
 ·
  have hb11' := of_decide_eq_false hb11
  refine sdc A qy hb11 λa A↦?_
  refine qa (hK10 _ _ (wsk fun K17 hK17 => wp_cond_false (A.ev rfl) ?_))
  refine wp_exit (hK5 _ _ (wsk fun K18 hK18 => wrl (sdm A λa A↦?_)))
  refine sda A λa A↦?_
  refine qa (hK18 _ _ (wp_ret (hret _ _ (en1 A rfl (qg rfl) ?_))))
  exact ⟨_, _, rfl, M⟩
theorem texts_nil {w : World} {so : Option Addr} {ca : Nat} : Calls Tryz.prog 53 #[.slice so ([] : List ByteArray).length ca] w fun e w' => ∃ so' ca', e = .returned (.slice so' ([] : List ByteArray).length ca') ∧ Mg w w' [.row 9 1 (.slice so' ([] : List ByteArray).length ca') ([] : List ByteArray).length (strC [])] := by
 have M : Mg w w ([]) := Mg.start w
 refine qp (l := [(0, .slice so (([] : List ByteArray).length) ca)]) Tryz.func53 rfl Tryz.ntmps53 rfl rfl ?_
 intro Q hret hnorm hP a A
 refine wsk fun K1 hK1 => wrl (sda A λa A↦?_)
 refine qa (hK1 _ _ (wsk fun K2 hK2 => wrl (sdm A λa A↦?_)))
 refine sct A (ef rfl rfl) (clS_w (l := []) rs_nil (by decide)) ?_
 rintro _ w4 ⟨v9, rfl, hM3⟩
 obtain ⟨so9, c9, rfl⟩ := zx (hM3.has 0 rfl)
 replace M : Mg w w4 (.row 9 1 (.slice so9 (([] : List ByteArray).length) c9) (([] : List ByteArray).length) (strC []) :: []) := hM3
 refine ⟨_, rfl, ?_⟩
 intro a A
 refine sda A λa A↦?_
 refine qa (hK2 _ _ (wsk fun K5 hK5 => wsk fun K6 hK6 => wrl (sdm A λa A↦?_)))
 refine sdo A (qr Tryz.underlying30 rfl) λa A↦?_
 refine sdm A λa A↦?_
 refine qa (hK6 _ _ (wp_block (wp_loop_rounds 12 ?_)))
 refine qaf fun K7 hK7 => ?_
 refine wsk fun K8 hK8 => wrl (sdo (v := .bool false) A (qf rfl rfl (fun w => (qy w).trans (by rw [show (decide (0 < ((([] : List ByteArray).length : Nat) : Int))) = false from (by rfl)]))) λa A↦?_)
 refine qa (hK8 _ _ (wsk fun K9 hK9 => wp_cond_false (A.ev rfl) ?_))
 refine wp_exit (hK5 _ _ (wsk fun K10 hK10 => wrl (sdm A λa A↦?_)))
 refine sda A λa A↦?_
 refine qa (hK10 _ _ (wp_ret (hret _ _ (en1 A rfl (qg rfl) ?_))))
 exact ⟨_, _, rfl, M⟩
theorem texts_any {w : World} {so : Option Addr} {ca : Nat} {l : List ByteArray} (hR : Rs w so l) (hl : l.length ≤ 8796093021952) (hs : ∀ s ∈ l, s.size ≤ 281474976710656) : Calls Tryz.prog 53 #[.slice so l.length ca] w fun e w' => ∃ so' ca', e = .returned (.slice so' l.length ca') ∧ Mg w w' [.row 9 1 (.slice so' l.length ca') l.length (strC l)] := by
 by_cases h : l = []
 ·
  subst h; exact texts_nil
 ·
  exact qlh hR hl hs h
theorem EnB_is1_9 : Is1 Tryz.prog 9 := ⟨⟨_, Tryz.underlying9, rfl⟩, by kernel_rfl⟩
theorem EnB_isS_111 : IsS Tryz.prog 111 2 := ⟨⟨_, Tryz.underlying111⟩, by kernel_rfl⟩
theorem qli (m : Nat) : (madeCells (Value.bool false).cells (m * 1)).toList = boolC (List.replicate m false) := by
 apply List.ext_getElem?
 intro j
 by_cases hj : j < m
 ·
  simp [madeCells, boolC, Value.cells, hj, List.getElem?_replicate, Nat.mod_one]
 ·
  simp [madeCells, boolC, Value.cells, hj, List.getElem?_replicate]
theorem boolC_set (bs : List Bool) (i : Nat) (b : Bool) (h : i < bs.length) : over (boolC bs) (i * 1) [.bool b] = boolC (bs.set i b) := by
 rw [qie (by rw [Nat.mul_one]; simpa [boolC] using h), Nat.mul_one]
 simp [boolC, List.map_set]
/-- What stands where so many were asked. -/
def kz (p : ByteArray → Bool) (l : List ByteArray) (i : Nat) : List Bool := (l.take i).map p ++ List.replicate (l.length - i) false
theorem askT_len (p : ByteArray → Bool) (l : List ByteArray) {i : Nat} (h : i ≤ l.length) : (kz p l i).length = l.length := by
 unfold kz
 rw [List.length_append, List.length_map, List.length_take, List.length_replicate]
 omega
theorem askT_step {p : ByteArray → Bool} {l : List ByteArray} {i : Nat} {s : ByteArray} (h : l[i]? = some s) : (kz p l i).set i (p s) = kz p l (i + 1) := by
 have hi := (List.getElem?_eq_some_iff.1 h).1
 unfold kz
 rw [List.set_append_right _ _ (by rw [List.length_map, List.length_take]; omega), List.length_map, List.length_take, Nat.min_eq_left (by omega), Nat.sub_self, List.take_add_one, h, Option.toList_some, List.map_append, List.append_assoc, show l.length - i = (l.length - (i + 1)) + 1 by omega, List.replicate_succ]
 rfl
theorem askT_full {p : ByteArray → Bool} {l : List ByteArray} {i : Nat} (h : l.length ≤ i) : kz p l i = l.map p := by
 unfold kz
 rw [List.take_of_length_le h, show l.length - i = 0 by omega]
 simp
theorem where_any {w : World} {so : Option Addr} {ca : Nat} {l : List ByteArray} (hR : Rs w so l) (hl : l.length ≤ 8796093021952) (hs : ∀ s ∈ l, s.size ≤ 281474976710656) {f : FuncId} {cs : List Value} {p : ByteArray → Bool} (hF : AskS Tryz.prog f cs w p) : Calls Tryz.prog 79 #[.slice so l.length ca, .func (.func f) #[] cs.toArray] w fun e w' => ∃ so' ca' si' ci', e = .returned (.agg #[.slice so' l.length ca', .slice si' l.length ci']) ∧ Mg w w' [.row 9 1 (.slice so' l.length ca') l.length (strC l), .row 4 1 (.slice si' l.length ci') l.length (boolC (l.map p))] := by
 have M : Mg w w ([]) := Mg.start w
 refine qp (l := [(0, .slice so l.length ca), (1, .func (.func f) #[] cs.toArray)]) Tryz.func79 rfl Tryz.ntmps79 rfl rfl ?_
 intro Q hret hnorm hP a A
 refine wsk fun K1 hK1 => wrl (zw (vs := [.slice none 0 0, .slice none 0 0]) (t := 111) A M rfl rfl rfl pg (zi (z := .agg #[.slice none 0 0, .slice none 0 0]) (by kernel_rfl) rfl) (by decide) ?_)
 intro g2 w3 M a A
 refine qa (hK1 _ _ (wsk fun K4 hK4 => wrl (sdm A λa A↦?_)))
 refine sdo A (qr Tryz.underlying30 rfl) λa A↦?_
 refine s_makeE (z := .bool false) (sz := 1) (by_ := 1) (m := l.length) A M Tryz.underlying31 (by kernel_rfl) rfl rfl rfl rfl rfl rfl (by omega) (by omega) (.inl (by decide)) ?_
 intro g5 w6 M a A
 replace M : Mg w w6 (.row 4 1 (.slice (some ⟨g5, 0, none⟩) l.length l.length) l.length (boolC (List.replicate l.length false)) :: .obj g2 (.cells #[.slice none 0 0, .slice none 0 0] 111) :: []) := by rw [← qli]; exact M
 refine sda A λa A↦?_
 refine qa (hK4 _ _ (wsk fun K7 hK7 => wsk fun K8 hK8 => wrl (sdm A λa A↦?_)))
 refine sdo A (qr Tryz.underlying30 rfl) λa A↦?_
 refine sdm A λa A↦?_
 refine qa (hK8 _ _ (wp_block ?_))
 replace M : Mg w w6 (.row 4 1 (.slice (some ⟨g5, 0, none⟩) l.length l.length) l.length (boolC (kz p l 0)) :: .obj g2 (.cells #[.slice none 0 0, .slice none 0 0] 111) :: []) := by rw [show kz p l 0 = List.replicate l.length false by simp [kz]]; exact M
 refine zq (fun m_ a w1 => ∃ (i : Nat), m_ = 1 + (l.length - i) ∧ (i ≤ l.length) ∧ Sl a 29 [(0, .slice so l.length ca), (1, .func (.func f) #[] cs.toArray), (4, .pointer (some ⟨g2, 0, none⟩)), (5, .slice (some ⟨g5, 0, none⟩) l.length l.length), (8, .slice so l.length ca), (9, .int .i64 (((l.length : Nat) : Int))), (10, .slice (some ⟨g5, 0, none⟩) l.length l.length), (11, .slice so l.length ca), (12, .int .i64 (((l.length : Nat) : Int))), (13, .int .i64 (((i : Nat) : Int)))] ∧ Mg w w1 (.row 4 1 (.slice (some ⟨g5, 0, none⟩) l.length l.length) l.length (boolC (kz p l i)) :: .obj g2 (.cells #[.slice none 0 0, .slice none 0 0] 111) :: [])) _ ⟨0, rfl, Nat.zero_le _, A.keep _ (by repeat' constructor), M⟩ ?_
 clear M A
 rintro m_ a w9 ⟨i, rfl, hinv11, A, M⟩ K10 hK10
 have hi0 := hinv11
 refine wsk fun K12 hK12 => wrl ?_
 rcases tf (decide (((i : Nat) : Int) < ((l.length : Nat) : Int))) with hb13 | hb13
 ·
  have hb13' := of_decide_eq_true hb13
  refine sdc A qy hb13 λa A↦?_
  refine qa (hK12 _ _ (wsk fun K14 hK14 => wp_cond_true (A.ev rfl) ?_))
  refine wp_skip (hK14 _ _ (wsk fun K15 hK15 => wp_block (wsk fun K16 hK16 => wrl (sdm A λa A↦?_))))
  obtain ⟨bx17, ox18, sx19, hs20, hc21, hi22⟩ := hR.at_ (i := i) (by omega)
  refine sdo (v := .pointer (some ⟨bx17, ox18 + i, none⟩)) A (zl (k := i) Tryz.underlying30 (by kernel_rfl) rfl rfl (by first | rfl | omega) hs20 (by omega)) λa A↦?_
  refine sdo A (m_loadX M hc21 EnB_is1_9 rfl) λa A↦?_
  iterate 2 refine sda A λa A↦?_
  refine qa (hK16 _ _ (wrl ?_))
  iterate 4 refine sdm A λa A↦?_
  refine ju A rfl rfl rfl (xj rfl rfl hF.inv) (hF.run sx19 _ M.bel) ?_
  rintro _ w24 ⟨rfl, hb23⟩
  replace M := M.call hb23
  refine ⟨_, rfl, ?_⟩
  intro a A
  refine sdo (v := .pointer (some ⟨g5, i * 1, none⟩)) A (xd (k := i) Tryz.underlying31 (by kernel_rfl) rfl rfl (by first | rfl | omega) (by first | omega | decide)) λa A↦?_
  refine qhg (us := []) (L' := (.row 4 1 (.slice (some ⟨g5, 0, none⟩) l.length l.length) l.length (boolC (kz p l (i + 1))) :: .obj g2 (.cells #[.slice none 0 0, .slice none 0 0] 111) :: [])) A M rfl rfl (yg (cs := [.bool (p sx19)]) rfl rfl rfl (by kernel_rfl) M 0 rfl (by show _ + 1 ≤ _; omega) rfl) 0 rfl (by rw [boolC_set _ _ _ (by rw [askT_len p l (by omega)]; omega), askT_step hi22]; rfl) ?_
  intro w25 M
  refine qa (hK15 _ _ (wrl (sdo (v := .int .i64 (((i + 1 : Nat) : Int))) A (qf rfl rfl (ar_add ((in_i64 (by omega) (by omega)).trans (by omega)))) λa A↦?_)))
  refine sdm A λa A↦?_
  refine qa ?_
  refine hK10 _ _ _ (by omega) ⟨i + 1, rfl, by omega, A.keep _ (by repeat' constructor), M⟩
 ·
  have hb13' := of_decide_eq_false hb13
  refine sdc A qy hb13 λa A↦?_
  refine qa (hK12 _ _ (wsk fun K26 hK26 => wp_cond_false (A.ev rfl) ?_))
  refine wp_exit (hK7 _ _ (wsk fun K27 hK27 => wrl (sdm A λa A↦?_)))
  refine sct A (ef rfl rfl) (texts_any (hR.below M.bel) hl hs) ?_
  rintro _ w31 ⟨so28, ca29, rfl, hM30⟩
  replace M : Mg w w31 (.row 9 1 (.slice so28 l.length ca29) l.length (strC l) :: .row 4 1 (.slice (some ⟨g5, 0, none⟩) l.length l.length) l.length (boolC (kz p l i)) :: .obj g2 (.cells #[.slice none 0 0, .slice none 0 0] 111) :: []) := (M.both hM30 (qh (by simp) (qh (by simp) (qk qm))) (qh (by simp) (qk qm)))
  refine ⟨_, rfl, ?_⟩
  intro a A
  refine sdm A λa A↦?_
  refine sdo (v := .agg #[.slice so28 l.length ca29, .slice (some ⟨g5, 0, none⟩) l.length l.length]) A (zj rfl (fun w => by kernel_rfl)) λa A↦?_
  refine zh (us := [.slice so28 l.length ca29, .slice (some ⟨g5, 0, none⟩) l.length l.length]) (L' := (.row 9 1 (.slice so28 l.length ca29) l.length (strC l) :: .row 4 1 (.slice (some ⟨g5, 0, none⟩) l.length l.length) l.length (boolC (kz p l i)) :: .obj g2 (.cells #[.slice so28 l.length ca29, .slice (some ⟨g5, 0, none⟩) l.length l.length] 111) :: [])) A M rfl rfl (qz rfl rfl rfl (by kernel_rfl) M 2 rfl rfl rfl) 2 rfl rfl rfl ?_
  intro w32 M
  refine qa (hK27 _ _ (wp_ret (hret _ _ (en1 A rfl (jy M EnB_isS_111 rfl 2 rfl (cs := [.slice so28 l.length ca29, .slice (some ⟨g5, 0, none⟩) l.length l.length]) rfl rfl) ?_))))
  replace M : Mg w w32 (.row 9 1 (.slice so28 l.length ca29) l.length (strC l) :: .row 4 1 (.slice (some ⟨g5, 0, none⟩) l.length l.length) l.length (boolC (kz p l i)) :: []) := by
   have h9 := M.sub (cc (cc (cn (.refl _))))
   exact h9
  rw [askT_full (show l.length ≤ i by omega)] at M
  exact ⟨_, _, _, _, rfl, M⟩
theorem EnC_isS_111 : IsS Tryz.prog 111 2 := ⟨⟨_, Tryz.underlying111⟩, by kernel_rfl⟩
theorem new1_any {w : World} {s : ByteArray} : Calls Tryz.prog 80 #[.string s] w fun e w' => e = .returned (.bool true) ∧ Below w.heap.size w w' := by
 have M : Mg w w ([]) := Mg.start w
 refine qp (l := [(0, .string s)]) Tryz.func80 rfl Tryz.ntmps80 rfl rfl ?_
 intro Q hret hnorm hP a A
 refine wsk fun K1 hK1 => wrl (sda A λa A↦?_)
 refine qa (hK1 _ _ (wsk fun K2 hK2 => wrl (sda A λa A↦?_)))
 refine qa (hK2 _ _ (wp_ret (hret _ _ (en1 A rfl (qg rfl) ?_))))
 exact ⟨rfl, M.bel⟩
theorem asks_new {w : World} : AskS Tryz.prog 80 [] w (fun _ => true) := ⟨fun us w => by kernel_rfl, fun s w1 hb => new1_any⟩
theorem new_twice {w : World} {so : Option Addr} {ca : Nat} {l : List ByteArray} (hR : Rs w so l) (hl : l.length ≤ 8796093021952) (ht : twS l = true) : Calls Tryz.prog 67 #[.slice so l.length ca] w fun e w' => e = .returned (.tuple #[.agg #[.slice none 0 0, .slice none 0 0], .int .i64 8]) ∧ Below w.heap.size w w' := by
 have M : Mg w w ([]) := Mg.start w
 refine qp (l := [(0, .slice so l.length ca)]) Tryz.func67 rfl Tryz.ntmps67 rfl rfl ?_
 intro Q hret hnorm hP a A
 refine wsk fun K1 hK1 => wrl (zw (vs := [.slice none 0 0, .slice none 0 0]) (t := 111) A M rfl rfl rfl pg (zi (z := .agg #[.slice none 0 0, .slice none 0 0]) (by kernel_rfl) rfl) (by decide) ?_)
 intro g2 w3 M a A
 refine sda A λa A↦?_
 refine qa (hK1 _ _ (wsk fun K4 hK4 => wp_block (wsk fun K5 hK5 => wrl (sdm A λa A↦?_))))
 refine gcl A M (ef rfl rfl) ((ht ▸ ul (hR.below M.bel) (by omega))) fun w7 hb6 M a A => ?_
 refine sda A λa A↦?_
 refine qa (hK5 _ _ (wp_cond_true (A.ev rfl) ?_))
 refine wsk fun K8 hK8 => wrl (sdo (v := .agg #[.slice none 0 0, .slice none 0 0]) A (zj rfl (fun w => by kernel_rfl)) λa A↦?_)
 refine zh (us := [.slice none 0 0, .slice none 0 0]) (L' := (.obj g2 (.cells #[.slice none 0 0, .slice none 0 0] 111) :: [])) A M rfl rfl (qz rfl rfl rfl (by kernel_rfl) M 0 rfl rfl rfl) 0 rfl rfl rfl ?_
 intro w9 M
 refine sda A λa A↦?_
 refine qa (hK8 _ _ (wp_ret (hret _ _ (en2 A rfl (jy M EnC_isS_111 rfl 0 rfl (cs := [.slice none 0 0, .slice none 0 0]) rfl rfl) (qg rfl) ?_))))
 exact ⟨rfl, M.bel⟩
theorem new_large {w : World} {so : Option Addr} {ca : Nat} {l : List ByteArray} (hR : Rs w so l) (hl : l.length ≤ 8796093021952) (ht : twS l = false) (h64 : 64 < l.length) : Calls Tryz.prog 67 #[.slice so l.length ca] w fun e w' => e = .returned (.tuple #[.agg #[.slice none 0 0, .slice none 0 0], .int .i64 4]) ∧ Below w.heap.size w w' := by
 have M : Mg w w ([]) := Mg.start w
 refine qp (l := [(0, .slice so l.length ca)]) Tryz.func67 rfl Tryz.ntmps67 rfl rfl ?_
 intro Q hret hnorm hP a A
 refine wsk fun K1 hK1 => wrl (zw (vs := [.slice none 0 0, .slice none 0 0]) (t := 111) A M rfl rfl rfl pg (zi (z := .agg #[.slice none 0 0, .slice none 0 0]) (by kernel_rfl) rfl) (by decide) ?_)
 intro g2 w3 M a A
 refine sda A λa A↦?_
 refine qa (hK1 _ _ (wsk fun K4 hK4 => wp_block (wsk fun K5 hK5 => wrl (sdm A λa A↦?_))))
 refine gcl A M (ef rfl rfl) ((ht ▸ ul (hR.below M.bel) (by omega))) fun w7 hb6 M a A => ?_
 refine sda A λa A↦?_
 refine qa (hK5 _ _ (wp_cond_false (A.ev rfl) ?_))
 refine wsk fun K8 hK8 => wrl (sdm A λa A↦?_)
 refine sdo A (qr Tryz.underlying30 rfl) λa A↦?_
 refine sdo (v := .bool true) A (qf rfl rfl (fun w => (jx w).trans (by rw [show (decide (64 < ((l.length : Nat) : Int))) = true from (decide_eq_true (by omega))]))) λa A↦?_
 refine sda A λa A↦?_
 refine qa (hK8 _ _ (wp_cond_true (A.ev rfl) ?_))
 refine wsk fun K9 hK9 => wrl (sdo (v := .agg #[.slice none 0 0, .slice none 0 0]) A (zj rfl (fun w => by kernel_rfl)) λa A↦?_)
 refine zh (us := [.slice none 0 0, .slice none 0 0]) (L' := (.obj g2 (.cells #[.slice none 0 0, .slice none 0 0] 111) :: [])) A M rfl rfl (qz rfl rfl rfl (by kernel_rfl) M 0 rfl rfl rfl) 0 rfl rfl rfl ?_
 intro w10 M
 refine sda A λa A↦?_
 refine qa (hK9 _ _ (wp_ret (hret _ _ (en2 A rfl (jy M EnC_isS_111 rfl 0 rfl (cs := [.slice none 0 0, .slice none 0 0]) rfl rfl) (qg rfl) ?_))))
 exact ⟨rfl, M.bel⟩
theorem new_ok {w : World} {so : Option Addr} {ca : Nat} {l : List ByteArray} (hR : Rs w so l) (hs : ∀ s ∈ l, s.size ≤ 281474976710656) (ht : twS l = false) (h64 : l.length ≤ 64) : Calls Tryz.prog 67 #[.slice so l.length ca] w fun e w' => ∃ so' ca' si' ci', e = .returned (.tuple #[.agg #[.slice so' l.length ca', .slice si' l.length ci'], .int .i64 0]) ∧ Mg w w' [.row 9 1 (.slice so' l.length ca') l.length (strC l), .row 4 1 (.slice si' l.length ci') l.length (boolC (l.map fun _ => true))] := by
 have M : Mg w w ([]) := Mg.start w
 refine qp (l := [(0, .slice so l.length ca)]) Tryz.func67 rfl Tryz.ntmps67 rfl rfl ?_
 intro Q hret hnorm hP a A
 refine wsk fun K1 hK1 => wrl (zw (vs := [.slice none 0 0, .slice none 0 0]) (t := 111) A M rfl rfl rfl pg (zi (z := .agg #[.slice none 0 0, .slice none 0 0]) (by kernel_rfl) rfl) (by decide) ?_)
 intro g2 w3 M a A
 refine sda A λa A↦?_
 refine qa (hK1 _ _ (wsk fun K4 hK4 => wp_block (wsk fun K5 hK5 => wrl (sdm A λa A↦?_))))
 refine gcl A M (ef rfl rfl) ((ht ▸ ul (hR.below M.bel) (by omega))) fun w7 hb6 M a A => ?_
 refine sda A λa A↦?_
 refine qa (hK5 _ _ (wp_cond_false (A.ev rfl) ?_))
 refine wsk fun K8 hK8 => wrl (sdm A λa A↦?_)
 refine sdo A (qr Tryz.underlying30 rfl) λa A↦?_
 refine sdo (v := .bool false) A (qf rfl rfl (fun w => (jx w).trans (by rw [show (decide (64 < ((l.length : Nat) : Int))) = false from (decide_eq_false (by omega))]))) λa A↦?_
 refine sda A λa A↦?_
 refine qa (hK8 _ _ (wp_cond_false (A.ev rfl) ?_))
 refine wp_skip (hK4 _ _ (wsk fun K9 hK9 => wrl (sdm A λa A↦?_)))
 refine sct A (ef rfl rfl) (where_any (hR.below M.bel) (by omega) hs (cs := []) asks_new) ?_
 rintro _ w15 ⟨so10, ca11, si12, ci13, rfl, hM14⟩
 replace M : Mg w w15 (.row 9 1 (.slice so10 l.length ca11) l.length (strC l) :: .row 4 1 (.slice si12 l.length ci13) l.length (boolC (l.map (fun _ => true))) :: .obj g2 (.cells #[.slice none 0 0, .slice none 0 0] 111) :: []) := (M.both hM14 (qh (by simp) (qk qm)) (qh (by simp) (qh (by simp) (qk qm))))
 refine ⟨_, rfl, ?_⟩
 intro a A
 refine zh (us := [.slice so10 l.length ca11, .slice si12 l.length ci13]) (L' := (.row 9 1 (.slice so10 l.length ca11) l.length (strC l) :: .row 4 1 (.slice si12 l.length ci13) l.length (boolC (l.map (fun _ => true))) :: .obj g2 (.cells #[.slice so10 l.length ca11, .slice si12 l.length ci13] 111) :: [])) A M rfl rfl (qz rfl rfl rfl (by kernel_rfl) M 2 rfl rfl rfl) 2 rfl rfl rfl ?_
 intro w16 M
 refine sda A λa A↦?_
 refine qa (hK9 _ _ (wp_ret (hret _ _ (en2 A rfl (jy M EnC_isS_111 rfl 2 rfl (cs := [.slice so10 l.length ca11, .slice si12 l.length ci13]) rfl rfl) (qg rfl) ?_))))
 replace M : Mg w w16 (.row 9 1 (.slice so10 l.length ca11) l.length (strC l) :: .row 4 1 (.slice si12 l.length ci13) l.length (boolC (l.map (fun _ => true))) :: []) := by
  have h9 := M.sub (cc (cc (cn (.refl _))))
  exact h9
 exact ⟨_, _, _, _, rfl, M⟩
end Go.Proofs.YtokgmpjblnpjmaaGreatDoor.G.E
namespace Go.Proofs.YtokgmpjblnpjmaaGreatDoor.G
open Go.RowKit
set_option linter.unusedVariables false
set_option linter.unusedSimpArgs false
set_option maxRecDepth 100000
theorem RcB_is1_26 : Is1 Tryz.prog 26 := ⟨⟨_, Tryz.underlying26, rfl⟩, by kernel_rfl⟩
theorem RcB_is1_3 : Is1 Tryz.prog 3 := ⟨⟨_, Tryz.underlying3, rfl⟩, by kernel_rfl⟩
theorem RcB_is1_30 : Is1 Tryz.prog 30 := ⟨⟨_, Tryz.underlying30, rfl⟩, by kernel_rfl⟩
theorem RcB_is1_31 : Is1 Tryz.prog 31 := ⟨⟨_, Tryz.underlying31, rfl⟩, by kernel_rfl⟩
theorem RcB_is1_4 : Is1 Tryz.prog 4 := ⟨⟨_, Tryz.underlying4, rfl⟩, by kernel_rfl⟩
theorem RcB_is1_9 : Is1 Tryz.prog 9 := ⟨⟨_, Tryz.underlying9, rfl⟩, by kernel_rfl⟩
theorem RcB_fld_33_0 : FieldAt Tryz.prog 33 0 0 := ⟨_, _, Tryz.underlying33, rfl, rfl, by kernel_rfl⟩
theorem RcB_fld_33_1 : FieldAt Tryz.prog 33 1 1 := ⟨_, _, Tryz.underlying33, rfl, rfl, by kernel_rfl⟩
theorem RcB_fld_33_2 : FieldAt Tryz.prog 33 2 2 := ⟨_, _, Tryz.underlying33, rfl, rfl, by kernel_rfl⟩
theorem RcB_fld_33_3 : FieldAt Tryz.prog 33 3 3 := ⟨_, _, Tryz.underlying33, rfl, rfl, by kernel_rfl⟩
theorem RcB_fld_33_4 : FieldAt Tryz.prog 33 4 4 := ⟨_, _, Tryz.underlying33, rfl, rfl, by kernel_rfl⟩
theorem RcB_fld_33_5 : FieldAt Tryz.prog 33 5 5 := ⟨_, _, Tryz.underlying33, rfl, rfl, by kernel_rfl⟩
theorem RcB_fld_33_6 : FieldAt Tryz.prog 33 6 6 := ⟨_, _, Tryz.underlying33, rfl, rfl, by kernel_rfl⟩
theorem RcB_fld_73_0 : FieldAt Tryz.prog 73 0 0 := ⟨_, _, Tryz.underlying73, rfl, rfl, by kernel_rfl⟩
theorem RcB_isS_33 : IsS Tryz.prog 33 7 := ⟨⟨_, Tryz.underlying33⟩, by kernel_rfl⟩
theorem yq {w : World} {so : Option Addr} {ca : Nat} {l : List ByteArray} (hR : E.Rs w so l) (hl : l.length ≤ 2000000) (hs : ∀ s ∈ l, s.size ≤ 281474976710656) : Calls Tryz.prog 48 #[.slice so l.length ca] w fun e w' => e = .returned (.bool (E.twS l)) ∧ Below w.heap.size w w' := by
 have M : Mg w w ([]) := Mg.start w
 refine qp (l := [(0, .slice so l.length ca)]) Tryz.func48 rfl Tryz.ntmps48 rfl rfl ?_
 intro Q hret hnorm hP a A
 refine wsk fun K1 hK1 => wrl (sda A λa A↦?_)
 refine qa (hK1 _ _ (wsk fun K2 hK2 => wrl (sdm A λa A↦?_)))
 rcases tf (E.twS l) with hb4 | hb4
 ·
  refine gcl A M (ef rfl rfl) (E.new_twice (hR.below M.bel) (by omega) hb4) fun w6 hb5 M a A => ?_
  refine sdm A λa A↦?_
  iterate 2 refine sdo A (ze (vs := [.agg #[.slice none 0 0, .slice none 0 0], .int .i64 8]) rfl rfl) λa A↦?_
  refine zw (vs := [.slice none 0 0, .slice none 0 0]) (t := 111) A M rfl rfl rfl pg (zi (z := .agg #[.slice none 0 0, .slice none 0 0]) (by kernel_rfl) rfl) (by decide) ?_
  intro g7 w8 M a A
  refine zh (us := [.slice none 0 0, .slice none 0 0]) (L' := (.obj g7 (.cells #[.slice none 0 0, .slice none 0 0] 111) :: [])) A M rfl rfl (qz rfl rfl rfl (by kernel_rfl) M 0 rfl rfl rfl) 0 rfl rfl rfl ?_
  intro w9 M
  refine sda A λa A↦?_
  refine qa (hK2 _ _ (wsk fun K10 hK10 => wrl (sdm A λa A↦?_)))
  refine sdo (v := .bool true) A (qf rfl rfl (fun w => by kernel_rfl)) λa A↦?_
  refine sda A λa A↦?_
  refine qa (hK10 _ _ (wp_ret (hret _ _ (en1 A rfl (qg rfl) ?_))))
  exact ⟨by rw [hb4], M.bel⟩
 ·
  rcases tf (decide (64 < l.length)) with hb12 | hb12
  ·
   have hb12' := of_decide_eq_true hb12
   refine gcl A M (ef rfl rfl) (E.new_large (hR.below M.bel) (by omega) hb4 (of_decide_eq_true hb12)) fun w14 hb13 M a A => ?_
   refine sdm A λa A↦?_
   iterate 2 refine sdo A (ze (vs := [.agg #[.slice none 0 0, .slice none 0 0], .int .i64 4]) rfl rfl) λa A↦?_
   refine zw (vs := [.slice none 0 0, .slice none 0 0]) (t := 111) A M rfl rfl rfl pg (zi (z := .agg #[.slice none 0 0, .slice none 0 0]) (by kernel_rfl) rfl) (by decide) ?_
   intro g15 w16 M a A
   refine zh (us := [.slice none 0 0, .slice none 0 0]) (L' := (.obj g15 (.cells #[.slice none 0 0, .slice none 0 0] 111) :: [])) A M rfl rfl (qz rfl rfl rfl (by kernel_rfl) M 0 rfl rfl rfl) 0 rfl rfl rfl ?_
   intro w17 M
   refine sda A λa A↦?_
   refine qa (hK2 _ _ (wsk fun K18 hK18 => wrl (sdm A λa A↦?_)))
   refine sdo (v := .bool false) A (qf rfl rfl (fun w => by kernel_rfl)) λa A↦?_
   refine sda A λa A↦?_
   refine qa (hK18 _ _ (wp_ret (hret _ _ (en1 A rfl (qg rfl) ?_))))
   exact ⟨by rw [hb4], M.bel⟩
  ·
   have hb12' := of_decide_eq_false hb12
   refine sct A (ef rfl rfl) (E.new_ok (hR.below M.bel) hs hb4 (by have := of_decide_eq_false hb12; omega)) ?_
   rintro _ w20 ⟨s1, c1, s2, c2, rfl, hb19⟩
   replace M := M.call hb19.bel
   refine ⟨_, rfl, ?_⟩
   intro a A
   refine sdm A λa A↦?_
   iterate 2 refine sdo A (ze (vs := [.agg #[.slice s1 l.length c1, .slice s2 l.length c2], .int .i64 0]) rfl rfl) λa A↦?_
   refine zw (vs := [.slice none 0 0, .slice none 0 0]) (t := 111) A M rfl rfl rfl pg (zi (z := .agg #[.slice none 0 0, .slice none 0 0]) (by kernel_rfl) rfl) (by decide) ?_
   intro g21 w22 M a A
   refine zh (us := [.slice s1 l.length c1, .slice s2 l.length c2]) (L' := (.obj g21 (.cells #[.slice s1 l.length c1, .slice s2 l.length c2] 111) :: [])) A M rfl rfl (qz rfl rfl rfl (by kernel_rfl) M 0 rfl rfl rfl) 0 rfl rfl rfl ?_
   intro w23 M
   refine sda A λa A↦?_
   refine qa (hK2 _ _ (wsk fun K24 hK24 => wrl (sdm A λa A↦?_)))
   refine sdo (v := .bool false) A (qf rfl rfl (fun w => by kernel_rfl)) λa A↦?_
   refine sda A λa A↦?_
   refine qa (hK24 _ _ (wp_ret (hret _ _ (en1 A rfl (qg rfl) ?_))))
   exact ⟨by rw [hb4], M.bel⟩
theorem qlj {w : World} {b tc rc : Nat} {tz ro : Option Addr} {ts : List Ty} {rs : List Rk} (V : SR w b tz tc ts ro rc rs) (hW : WS (ts.map Ty.k) (rs.map Rk.k)) {u : Ty} (hU : TyR w u) (hul : u.fs.length ≤ 2000000) (huz : ∀ s ∈ u.fs, s.size ≤ 281474976710656) : Calls Tryz.prog 25 #[.pointer (some ⟨b, 0, none⟩), .agg u.c.toArray] w fun e w' => e = .returned (.bool (gdB ts.length u.k)) ∧ Below w.heap.size w w' := by
 have M : Mg w w ([]) := Mg.start w
 refine qp (l := [(0, .pointer (some ⟨b, 0, none⟩)), (1, .agg u.c.toArray)]) Tryz.func25 rfl Tryz.ntmps25 rfl rfl ?_
 intro Q hret hnorm hP a A
 refine wsk fun K1 hK1 => wrl (zw (vs := u.c) (t := 33) A M rfl rfl rfl pg (zk rfl rfl) (by decide) ?_)
 intro g2 w3 M a A
 refine sda A λa A↦?_
 refine qa (hK1 _ _ (wsk fun K4 hK4 => wrl (sdo (v := .pointer (some ⟨g2, 3, none⟩)) A (qb RcB_fld_33_3 rfl rfl) λa A↦?_)))
 refine sdo A (qj M RcB_is1_31 rfl 0 rfl rfl) λa A↦?_
 refine sdo A (qr Tryz.underlying31 rfl) λa A↦?_
 refine sdo (v := .pointer (some ⟨g2, 2, none⟩)) A (qb RcB_fld_33_2 rfl rfl) λa A↦?_
 refine sdo A (qj M RcB_is1_30 rfl 0 rfl rfl) λa A↦?_
 refine sdo A (qr Tryz.underlying30 rfl) λa A↦?_
 rcases tf ((((u.ms.length : Nat) : Int) == ((u.fs.length : Nat) : Int))) with hb5 | hb5
 ·
  have hb5' := eq_of_beq hb5
  refine sdc A qw hb5 λa A↦?_
  refine sdm A λa A↦?_
  refine sdo (v := .pointer (some ⟨g2, 2, none⟩)) A (qb RcB_fld_33_2 rfl rfl) λa A↦?_
  refine sdo A (qj M RcB_is1_30 rfl 0 rfl rfl) λa A↦?_
  rcases tf (E.twS u.fs) with hb6 | hb6
  ·
   refine gcl A M (ef rfl rfl) ((hb6 ▸ yq (hU.f.below M.bel) hul huz)) fun w8 hb7 M a A => ?_
   refine sdo (v := .bool false) A (zm rfl jb) λa A↦?_
   refine sdk (v := .bool false) A λa A↦?_
   refine sdm A λa A↦?_
   iterate 4 refine ql A rfl rfl rfl λa A↦?_
   iterate 5 refine kf A rfl rfl rfl λa A↦?_
   refine ql A rfl rfl rfl λa A↦?_
   refine sdk (v := .bool false) A λa A↦?_
   refine sda A λa A↦?_
   refine qa (hK4 _ _ (wp_ret (hret _ _ (en1 A rfl (qg rfl) ?_))))
   exact ⟨by rw [gd_no (n := ts.length) (k := u.k) (.inr (.inl hb6))], M.bel⟩
  ·
   refine gcl A M (ef rfl rfl) ((hb6 ▸ yq (hU.f.below M.bel) hul huz)) fun w10 hb9 M a A => ?_
   refine sdo (v := .bool true) A (zm rfl jb) λa A↦?_
   refine sdk (v := .bool true) A λa A↦?_
   refine sdm A λa A↦?_
   refine sdo (v := .pointer (some ⟨g2, 1, none⟩)) A (qb RcB_fld_33_1 rfl rfl) λa A↦?_
   refine sdo A (qj M RcB_is1_3 rfl 0 rfl rfl) λa A↦?_
   rcases tf ((u.par == -1)) with hb11 | hb11
   ·
    have hb11' := eq_of_beq hb11
    refine sdc A qw hb11 λa A↦?_
    refine sdm A λa A↦?_
    iterate 5 refine ql A rfl rfl rfl λa A↦?_
    iterate 2 refine sdk (v := .bool true) A λa A↦?_
    refine sda A λa A↦?_
    refine qa (hK4 _ _ (wp_ret (hret _ _ (en1 A rfl (qg rfl) ?_))))
    exact ⟨by rw [gd_of (n := ts.length) (k := u.k) (show u.ms.length = u.fs.length by omega) hb6 (show -1 ≤ u.par by omega) (show u.par < _ by omega)], M.bel⟩
   ·
    have hb11' := ne_of_beq_false hb11
    refine sdc A qw hb11 λa A↦?_
    iterate 2 refine sdm A λa A↦?_
    refine sdo (v := .pointer (some ⟨g2, 1, none⟩)) A (qb RcB_fld_33_1 rfl rfl) λa A↦?_
    refine sdo A (qj M RcB_is1_3 rfl 0 rfl rfl) λa A↦?_
    rcases tf (okT ts.length u.par) with hb12 | hb12
    ·
     have hx14 := ka hb12
     refine gcl A M (ef rfl rfl) (vb (V.below M.bel) hW hb12) fun w15 hb13 M a A => ?_
     refine sdo (v := .bool true) A (qf rfl rfl (fun w => by kernel_rfl)) λa A↦?_
     iterate 2 refine sdk (v := .bool true) A λa A↦?_
     refine sda A λa A↦?_
     refine qa (hK4 _ _ (wp_ret (hret _ _ (en1 A rfl (qg rfl) ?_))))
     exact ⟨by rw [gd_of (n := ts.length) (k := u.k) (show u.ms.length = u.fs.length by omega) hb6 (show -1 ≤ u.par by omega) (show u.par < _ by omega)], M.bel⟩
    ·
     have hx17 := qig hb12
     refine gcl A M (ef rfl rfl) (kb (V.below M.bel) hW hb12) fun w18 hb16 M a A => ?_
     refine sdo (v := .bool false) A (qf rfl rfl (fun w => by kernel_rfl)) λa A↦?_
     iterate 2 refine sdk (v := .bool false) A λa A↦?_
     refine sda A λa A↦?_
     refine qa (hK4 _ _ (wp_ret (hret _ _ (en1 A rfl (qg rfl) ?_))))
     exact ⟨by rw [gd_no (n := ts.length) (k := u.k) (.inr (.inr (show u.par < -1 ∨ ((ts.length : Nat) : Int) ≤ u.par by omega)))], M.bel⟩
 ·
  have hb5' := ne_of_beq_false hb5
  refine sdc A qw hb5 λa A↦?_
  refine sdm A λa A↦?_
  iterate 4 refine ql A rfl rfl rfl λa A↦?_
  refine sdk (v := .bool false) A λa A↦?_
  refine sdm A λa A↦?_
  iterate 4 refine ql A rfl rfl rfl λa A↦?_
  iterate 5 refine kf A rfl rfl rfl λa A↦?_
  refine ql A rfl rfl rfl λa A↦?_
  refine sdk (v := .bool false) A λa A↦?_
  refine sda A λa A↦?_
  refine qa (hK4 _ _ (wp_ret (hret _ _ (en1 A rfl (qg rfl) ?_))))
  exact ⟨by rw [gd_no (n := ts.length) (k := u.k) (.inl (show u.ms.length ≠ u.fs.length by omega))], M.bel⟩
theorem um {w : World} {b tc rc : Nat} {tz ro : Option Addr} {ts : List Ty} {rs : List Rk} (V : SR w b tz tc ts ro rc rs) (hW : WS (ts.map Ty.k) (rs.map Rk.k)) {u : Ty} (hU : TyR w u) (hul : u.fs.length ≤ 2000000) (huz : ∀ s ∈ u.fs, s.size ≤ 281474976710656) {v : Bool} (h : gdB ts.length u.k = v) : Calls Tryz.prog 25 #[.pointer (some ⟨b, 0, none⟩), .agg u.c.toArray] w fun e w' => e = .returned (.bool v) ∧ Below w.heap.size w w' := h ▸ qlj V hW hU hul huz
theorem qch {w : World} {so so2 : Option Addr} {ca ca2 : Nat} {l l2 : List Bool} (hR : E.Rl w so l) (hR2 : E.Rl w so2 l2) (hl : l.length ≤ 2000000) (hl2 : l2.length ≤ 1000000000) : Calls Tryz.prog 69 #[.slice so l.length ca, .slice so2 l2.length ca2] w fun e w' => e = .returned (.bool (decide (l = l2))) ∧ Below w.heap.size w w' := by
 have M : Mg w w ([]) := Mg.start w
 refine qp (l := [(0, .slice so l.length ca), (1, .slice so2 l2.length ca2)]) Tryz.func69 rfl Tryz.ntmps69 rfl rfl ?_
 intro Q hret hnorm hP a A
 refine wsk fun K1 hK1 => wrl (sda A λa A↦?_)
 refine qa (hK1 _ _ (wsk fun K2 hK2 => wsk fun K3 hK3 => wrl (sdm A λa A↦?_)))
 refine sdo A (qr Tryz.underlying31 rfl) λa A↦?_
 refine sdm A λa A↦?_
 refine sdo A (qr Tryz.underlying31 rfl) λa A↦?_
 rcases tf ((((l.length : Nat) : Int) != ((l2.length : Nat) : Int))) with hb4 | hb4
 ·
  have hb4' := bne_iff_ne.1 hb4
  refine sdc A ja hb4 λa A↦?_
  refine qa (hK3 _ _ (wp_cond_true (A.ev rfl) ?_))
  refine wsk fun K5 hK5 => wrl (sda A λa A↦?_)
  refine qa (hK5 _ _ (wp_ret (hret _ _ (en1 A rfl (qg rfl) ?_))))
  refine ⟨?_, M.bel⟩
  rw [decide_eq_false (fun e9 => by rw [e9] at hb4'; exact hb4' rfl)]
 ·
  have hb4' := bne_eq_false_iff_eq.1 hb4
  refine sdc A ja hb4 λa A↦?_
  refine qa (hK3 _ _ (wp_cond_false (A.ev rfl) ?_))
  refine wp_skip (hK2 _ _ (wsk fun K6 hK6 => wsk fun K7 hK7 => wrl (sdm A λa A↦?_)))
  refine sdo A (qr Tryz.underlying31 rfl) λa A↦?_
  refine sdm A λa A↦?_
  refine qa (hK7 _ _ (wp_block (zq (fun m_ a w1 => ∃ (i : Nat), m_ = 1 + (l.length - i) ∧ (i ≤ l.length ∧ ∀ j : Nat, j < i → l[j]? = l2[j]?) ∧ Sl a 26 [(0, .slice so l.length ca), (1, .slice so2 l2.length ca2), (6, .slice so l.length ca), (7, .int .i64 (((l.length : Nat) : Int))), (8, .slice so2 l2.length ca2), (9, .int .i64 (((l2.length : Nat) : Int))), (10, .bool false), (11, .slice so l.length ca), (12, .int .i64 (((l.length : Nat) : Int))), (13, .int .i64 (((i : Nat) : Int)))] ∧ Mg w w1 ([])) _ ⟨0, rfl, ⟨Nat.zero_le _, fun j h => absurd h (Nat.not_lt_zero _)⟩, A.keep _ (by repeat' constructor), M⟩ ?_)))
  clear M A
  rintro m_ a w8 ⟨i, rfl, hinv10, A, M⟩ K9 hK9
  obtain ⟨hi0, hin9⟩ := hinv10
  refine wsk fun K11 hK11 => wrl ?_
  rcases tf (decide (((i : Nat) : Int) < ((l.length : Nat) : Int))) with hb12 | hb12
  ·
   have hb12' := of_decide_eq_true hb12
   refine sdc A qy hb12 λa A↦?_
   refine qa (hK11 _ _ (wsk fun K13 hK13 => wp_cond_true (A.ev rfl) ?_))
   refine wp_skip (hK13 _ _ (wsk fun K14 hK14 => wp_block (wsk fun K15 hK15 => wrl (sdm A λa A↦?_))))
   refine sda A λa A↦?_
   refine qa (hK15 _ _ (wsk fun K16 hK16 => jn (S := fun w1 => Mg w w1 ([])) (by kernel_rfl) ?_))
   replace M := M.drew
   refine qe A 0 rfl rfl rfl rfl hP (M.sub (List.nil_sublist _)) (fun w1 M => qt rfl) λa A↦?_
   refine qe A 1 rfl rfl rfl rfl hP (M.sub (List.nil_sublist _)) (fun w1 M => qt rfl) λa A↦?_
   obtain ⟨bx17, ox18, sx19, hs20, hc21, hi22⟩ := hR.at_ (i := i) (by omega)
   refine qe (v := .pointer (some ⟨bx17, ox18 + i, none⟩)) A 2 rfl rfl rfl rfl hP (M.sub (List.nil_sublist _)) (fun w1 M => zl (k := i) Tryz.underlying31 (by kernel_rfl) rfl rfl (by first | rfl | omega) hs20 (by omega)) λa A↦?_
   refine qe A 3 rfl rfl rfl rfl hP (M.sub (List.nil_sublist _)) (fun w1 M => E.m_loadX M hc21 RcB_is1_4 rfl) λa A↦?_
   refine qe A 4 rfl rfl rfl rfl hP (M.sub (List.nil_sublist _)) (fun w1 M => qt rfl) λa A↦?_
   refine qe A 5 rfl rfl rfl rfl hP (M.sub (List.nil_sublist _)) (fun w1 M => qt rfl) λa A↦?_
   obtain ⟨bx23, ox24, sx25, hs26, hc27, hi28⟩ := hR2.at_ (i := i) (by omega)
   refine qe (v := .pointer (some ⟨bx23, ox24 + i, none⟩)) A 6 rfl rfl rfl rfl hP (M.sub (List.nil_sublist _)) (fun w1 M => zl (k := i) Tryz.underlying31 (by kernel_rfl) rfl rfl (by first | rfl | omega) hs26 (by omega)) λa A↦?_
   refine qe A 7 rfl rfl rfl rfl hP (M.sub (List.nil_sublist _)) (fun w1 M => E.m_loadX M hc27 RcB_is1_4 rfl) λa A↦?_
   rcases tf (!(sx19 == sx25)) with hb29 | hb29
   ·
    refine qe (v := .bool true) A 8 rfl rfl rfl rfl hP (M.sub (List.nil_sublist _)) (fun w1 M => qf rfl rfl (fun w => ((vw Tryz.underlying4) w).trans (by rw [hb29]))) λa A↦?_
    refine zn (by kernel_rfl) ?_
    refine hK16 _ _ (wp_cond_true (A.ev rfl) ?_)
    refine wsk fun K30 hK30 => wrl (sda A λa A↦?_)
    refine qa (hK30 _ _ (wp_ret (hret _ _ (en1 A rfl (qg rfl) ?_))))
    refine ⟨?_, M.bel⟩
    rw [decide_eq_false (fun e9 => by rw [e9, hi28] at hi22; have e8 := Option.some.inj hi22; rw [e8] at hb29; simp at hb29)]
   ·
    refine qe (v := .bool false) A 8 rfl rfl rfl rfl hP (M.sub (List.nil_sublist _)) (fun w1 M => qf rfl rfl (fun w => ((vw Tryz.underlying4) w).trans (by rw [hb29]))) λa A↦?_
    refine zn (by kernel_rfl) ?_
    refine hK16 _ _ (wp_cond_false (A.ev rfl) ?_)
    refine wp_skip (hK14 _ _ (wrl (sdo (v := .int .i64 (((i + 1 : Nat) : Int))) A (qf rfl rfl (fun w => (jk (jq (by omega) (by omega)) w).trans (by rw [show (((i : Nat) : Int) + 1 : Int) = ((i + 1 : Nat) : Int) from by omega]))) λa A↦?_)))
    refine sdm A λa A↦?_
    refine qa ?_
    refine hK9 _ _ _ (by omega) ⟨i + 1, rfl, ⟨by omega, fun j hj => if h9 : j < i then hin9 j h9 else by have h8 : j = i := (by omega); subst h8; rw [hi22, hi28, show sx19 = sx25 from by simpa using hb29]⟩, A.keep _ (by repeat' constructor), M⟩
  ·
   have hb12' := of_decide_eq_false hb12
   refine sdc A qy hb12 λa A↦?_
   refine qa (hK11 _ _ (wsk fun K31 hK31 => wp_cond_false (A.ev rfl) ?_))
   refine wp_exit (hK6 _ _ (wsk fun K32 hK32 => wrl (sda A λa A↦?_)))
   refine qa (hK32 _ _ (wp_ret (hret _ _ (en1 A rfl (qg rfl) ?_))))
   refine ⟨?_, M.bel⟩
   rw [decide_eq_true (List.ext_getElem? fun j => if h9 : j < i then hin9 j h9 else by rw [List.getElem?_eq_none (by omega), List.getElem?_eq_none (by omega)])]
theorem same_any {w : World} {ya yb : Ty} (hA1 : TyR w ya) (hB1 : TyR w yb) (ha1 : ya.fs.length ≤ 2000000) (hb1 : yb.fs.length ≤ 2000000) (ha2 : ya.ms.length ≤ 2000000) (hb2 : yb.ms.length ≤ 2000000) : Calls Tryz.prog 51 #[.agg ya.c.toArray, .agg yb.c.toArray] w fun e w' => e = .returned (.bool (xg ya.k yb.k)) ∧ Below w.heap.size w w' := by
 have M : Mg w w ([]) := Mg.start w
 refine qp (l := [(0, .agg ya.c.toArray), (1, .agg yb.c.toArray)]) Tryz.func51 rfl Tryz.ntmps51 rfl rfl ?_
 intro Q hret hnorm hP a A
 refine wsk fun K1 hK1 => wrl (zw (vs := ya.c) (t := 33) A M rfl rfl rfl pg (zk rfl rfl) (by decide) ?_)
 intro g2 w3 M a A
 refine zw (vs := yb.c) (t := 33) A M rfl rfl rfl pg (zk rfl rfl) (by decide) ?_
 intro g4 w5 M a A
 refine sda A λa A↦?_
 refine qa (hK1 _ _ (wsk fun K6 hK6 => wrl (sdo (v := .pointer (some ⟨g2, 0, none⟩)) A (qb RcB_fld_33_0 rfl rfl) λa A↦?_)))
 refine sdo A (qj M RcB_is1_9 rfl 1 rfl rfl) λa A↦?_
 refine sdo (v := .pointer (some ⟨g4, 0, none⟩)) A (qb RcB_fld_33_0 rfl rfl) λa A↦?_
 refine sdo A (qj M RcB_is1_9 rfl 0 rfl rfl) λa A↦?_
 rcases tf (decide (ya.nm = yb.nm)) with hb7 | hb7
 ·
  have hb7' := of_decide_eq_true hb7
  refine sdo (v := .bool true) A (qf rfl rfl (fun w => (jv Tryz.underlying9 w).trans (by rw [hb7] <;> rfl))) λa A↦?_
  refine sdm A λa A↦?_
  refine sdo (v := .pointer (some ⟨g2, 1, none⟩)) A (qb RcB_fld_33_1 rfl rfl) λa A↦?_
  refine sdo A (qj M RcB_is1_3 rfl 1 rfl rfl) λa A↦?_
  refine sdo (v := .pointer (some ⟨g4, 1, none⟩)) A (qb RcB_fld_33_1 rfl rfl) λa A↦?_
  refine sdo A (qj M RcB_is1_3 rfl 0 rfl rfl) λa A↦?_
  rcases tf ((ya.par == yb.par)) with hb8 | hb8
  ·
   have hb8' := eq_of_beq hb8
   refine sdc A qw hb8 λa A↦?_
   refine sdk (v := .bool true) A λa A↦?_
   refine sdm A λa A↦?_
   refine sdo (v := .pointer (some ⟨g2, 2, none⟩)) A (qb RcB_fld_33_2 rfl rfl) λa A↦?_
   refine sdo A (qj M RcB_is1_30 rfl 1 rfl rfl) λa A↦?_
   refine sdo (v := .pointer (some ⟨g4, 2, none⟩)) A (qb RcB_fld_33_2 rfl rfl) λa A↦?_
   refine sdo A (qj M RcB_is1_30 rfl 0 rfl rfl) λa A↦?_
   rcases tf (decide (ya.fs = yb.fs)) with hb9 | hb9
   ·
    have hb9' := of_decide_eq_true hb9
    refine gcl A M (ef rfl rfl) ((hb9 ▸ E.equalS_any (hA1.f.below M.bel) (hB1.f.below M.bel) (by omega) (by omega))) fun w11 hb10 M a A => ?_
    refine sdk (v := .bool true) A λa A↦?_
    refine sdm A λa A↦?_
    refine sdo (v := .pointer (some ⟨g2, 3, none⟩)) A (qb RcB_fld_33_3 rfl rfl) λa A↦?_
    refine sdo A (qj M RcB_is1_31 rfl 1 rfl rfl) λa A↦?_
    refine sdo (v := .pointer (some ⟨g4, 3, none⟩)) A (qb RcB_fld_33_3 rfl rfl) λa A↦?_
    refine sdo A (qj M RcB_is1_31 rfl 0 rfl rfl) λa A↦?_
    rcases tf (decide (ya.ms = yb.ms)) with hb12 | hb12
    ·
     have hb12' := of_decide_eq_true hb12
     refine gcl A M (ef rfl rfl) ((hb12 ▸ qch (hA1.m.below M.bel) (hB1.m.below M.bel) (by omega) (by omega))) fun w14 hb13 M a A => ?_
     refine sdk (v := .bool true) A λa A↦?_
     refine sdm A λa A↦?_
     refine sdo (v := .pointer (some ⟨g2, 4, none⟩)) A (qb RcB_fld_33_4 rfl rfl) λa A↦?_
     refine sdo A (qj M RcB_is1_4 rfl 1 rfl rfl) λa A↦?_
     refine sdo (v := .pointer (some ⟨g4, 4, none⟩)) A (qb RcB_fld_33_4 rfl rfl) λa A↦?_
     refine sdo A (qj M RcB_is1_4 rfl 0 rfl rfl) λa A↦?_
     rcases tf ((ya.sl == yb.sl)) with hb15 | hb15
     ·
      have hb15' := eq_of_beq hb15
      refine sdo (v := .bool true) A (qf rfl rfl (fun w => ((vv Tryz.underlying4) w).trans (by rw [hb15]))) λa A↦?_
      refine sdk (v := .bool true) A λa A↦?_
      refine sdm A λa A↦?_
      refine sdo (v := .pointer (some ⟨g2, 5, none⟩)) A (qb RcB_fld_33_5 rfl rfl) λa A↦?_
      refine sdo A (qj M RcB_is1_4 rfl 1 rfl rfl) λa A↦?_
      refine sdo (v := .pointer (some ⟨g4, 5, none⟩)) A (qb RcB_fld_33_5 rfl rfl) λa A↦?_
      refine sdo A (qj M RcB_is1_4 rfl 0 rfl rfl) λa A↦?_
      rcases tf ((ya.op == yb.op)) with hb16 | hb16
      ·
       have hb16' := eq_of_beq hb16
       refine sdo (v := .bool true) A (qf rfl rfl (fun w => ((vv Tryz.underlying4) w).trans (by rw [hb16]))) λa A↦?_
       refine sdk (v := .bool true) A λa A↦?_
       refine sdm A λa A↦?_
       refine sdo (v := .pointer (some ⟨g2, 6, none⟩)) A (qb RcB_fld_33_6 rfl rfl) λa A↦?_
       refine sdo A (qj M RcB_is1_9 rfl 1 rfl rfl) λa A↦?_
       refine sdo (v := .pointer (some ⟨g4, 6, none⟩)) A (qb RcB_fld_33_6 rfl rfl) λa A↦?_
       refine sdo A (qj M RcB_is1_9 rfl 0 rfl rfl) λa A↦?_
       rcases tf (decide (ya.ui = yb.ui)) with hb17 | hb17
       ·
        have hb17' := of_decide_eq_true hb17
        refine sdo (v := .bool true) A (qf rfl rfl (fun w => (jv Tryz.underlying9 w).trans (by rw [hb17] <;> rfl))) λa A↦?_
        refine sdk (v := .bool true) A λa A↦?_
        refine sda A λa A↦?_
        refine qa (hK6 _ _ (wp_ret (hret _ _ (en1 A rfl (qg rfl) ?_))))
        refine ⟨?_, M.bel⟩
        rw [show xg ya.k yb.k = true from by rw [xt, hb7, hb8, hb9, hb12, hb15, hb16, hb17]; rfl]
       ·
        have hb17' := of_decide_eq_false hb17
        refine sdo (v := .bool false) A (qf rfl rfl (fun w => (jv Tryz.underlying9 w).trans (by rw [hb17] <;> rfl))) λa A↦?_
        refine sdk (v := .bool false) A λa A↦?_
        refine sda A λa A↦?_
        refine qa (hK6 _ _ (wp_ret (hret _ _ (en1 A rfl (qg rfl) ?_))))
        refine ⟨?_, M.bel⟩
        rw [show xg ya.k yb.k = false from by rw [xt, hb7, hb8, hb9, hb12, hb15, hb16, hb17]; rfl]
      ·
       have hb16' := ne_of_beq_false hb16
       refine sdo (v := .bool false) A (qf rfl rfl (fun w => ((vv Tryz.underlying4) w).trans (by rw [hb16]))) λa A↦?_
       refine sdk (v := .bool false) A λa A↦?_
       refine sdm A λa A↦?_
       iterate 5 refine ql A rfl rfl rfl λa A↦?_
       refine sdk (v := .bool false) A λa A↦?_
       refine sda A λa A↦?_
       refine qa (hK6 _ _ (wp_ret (hret _ _ (en1 A rfl (qg rfl) ?_))))
       refine ⟨?_, M.bel⟩
       rw [show xg ya.k yb.k = false from by rw [xt, hb7, hb8, hb9, hb12, hb15, hb16]; rfl]
     ·
      have hb15' := ne_of_beq_false hb15
      refine sdo (v := .bool false) A (qf rfl rfl (fun w => ((vv Tryz.underlying4) w).trans (by rw [hb15]))) λa A↦?_
      refine sdk (v := .bool false) A λa A↦?_
      refine sdm A λa A↦?_
      iterate 5 refine ql A rfl rfl rfl λa A↦?_
      refine sdk (v := .bool false) A λa A↦?_
      refine sdm A λa A↦?_
      iterate 5 refine ql A rfl rfl rfl λa A↦?_
      refine sdk (v := .bool false) A λa A↦?_
      refine sda A λa A↦?_
      refine qa (hK6 _ _ (wp_ret (hret _ _ (en1 A rfl (qg rfl) ?_))))
      refine ⟨?_, M.bel⟩
      rw [show xg ya.k yb.k = false from by rw [xt, hb7, hb8, hb9, hb12, hb15]; rfl]
    ·
     have hb12' := of_decide_eq_false hb12
     refine gcl A M (ef rfl rfl) ((hb12 ▸ qch (hA1.m.below M.bel) (hB1.m.below M.bel) (by omega) (by omega))) fun w19 hb18 M a A => ?_
     refine sdk (v := .bool false) A λa A↦?_
     refine sdm A λa A↦?_
     iterate 5 refine ql A rfl rfl rfl λa A↦?_
     refine sdk (v := .bool false) A λa A↦?_
     refine sdm A λa A↦?_
     iterate 5 refine ql A rfl rfl rfl λa A↦?_
     refine sdk (v := .bool false) A λa A↦?_
     refine sdm A λa A↦?_
     iterate 5 refine ql A rfl rfl rfl λa A↦?_
     refine sdk (v := .bool false) A λa A↦?_
     refine sda A λa A↦?_
     refine qa (hK6 _ _ (wp_ret (hret _ _ (en1 A rfl (qg rfl) ?_))))
     refine ⟨?_, M.bel⟩
     rw [show xg ya.k yb.k = false from by rw [xt, hb7, hb8, hb9, hb12]; rfl]
   ·
    have hb9' := of_decide_eq_false hb9
    refine gcl A M (ef rfl rfl) ((hb9 ▸ E.equalS_any (hA1.f.below M.bel) (hB1.f.below M.bel) (by omega) (by omega))) fun w21 hb20 M a A => ?_
    refine sdk (v := .bool false) A λa A↦?_
    refine sdm A λa A↦?_
    iterate 5 refine ql A rfl rfl rfl λa A↦?_
    refine sdk (v := .bool false) A λa A↦?_
    refine sdm A λa A↦?_
    iterate 5 refine ql A rfl rfl rfl λa A↦?_
    refine sdk (v := .bool false) A λa A↦?_
    refine sdm A λa A↦?_
    iterate 5 refine ql A rfl rfl rfl λa A↦?_
    refine sdk (v := .bool false) A λa A↦?_
    refine sdm A λa A↦?_
    iterate 5 refine ql A rfl rfl rfl λa A↦?_
    refine sdk (v := .bool false) A λa A↦?_
    refine sda A λa A↦?_
    refine qa (hK6 _ _ (wp_ret (hret _ _ (en1 A rfl (qg rfl) ?_))))
    refine ⟨?_, M.bel⟩
    rw [show xg ya.k yb.k = false from by rw [xt, hb7, hb8, hb9]; rfl]
  ·
   have hb8' := ne_of_beq_false hb8
   refine sdc A qw hb8 λa A↦?_
   refine sdk (v := .bool false) A λa A↦?_
   refine sdm A λa A↦?_
   iterate 5 refine ql A rfl rfl rfl λa A↦?_
   refine sdk (v := .bool false) A λa A↦?_
   refine sdm A λa A↦?_
   iterate 5 refine ql A rfl rfl rfl λa A↦?_
   refine sdk (v := .bool false) A λa A↦?_
   refine sdm A λa A↦?_
   iterate 5 refine ql A rfl rfl rfl λa A↦?_
   refine sdk (v := .bool false) A λa A↦?_
   refine sdm A λa A↦?_
   iterate 5 refine ql A rfl rfl rfl λa A↦?_
   refine sdk (v := .bool false) A λa A↦?_
   refine sdm A λa A↦?_
   iterate 5 refine ql A rfl rfl rfl λa A↦?_
   refine sdk (v := .bool false) A λa A↦?_
   refine sda A λa A↦?_
   refine qa (hK6 _ _ (wp_ret (hret _ _ (en1 A rfl (qg rfl) ?_))))
   refine ⟨?_, M.bel⟩
   rw [show xg ya.k yb.k = false from by rw [xt, hb7, hb8]; rfl]
 ·
  have hb7' := of_decide_eq_false hb7
  refine sdo (v := .bool false) A (qf rfl rfl (fun w => (jv Tryz.underlying9 w).trans (by rw [hb7] <;> rfl))) λa A↦?_
  refine sdm A λa A↦?_
  iterate 5 refine ql A rfl rfl rfl λa A↦?_
  refine sdk (v := .bool false) A λa A↦?_
  refine sdm A λa A↦?_
  iterate 5 refine ql A rfl rfl rfl λa A↦?_
  refine sdk (v := .bool false) A λa A↦?_
  refine sdm A λa A↦?_
  iterate 5 refine ql A rfl rfl rfl λa A↦?_
  refine sdk (v := .bool false) A λa A↦?_
  refine sdm A λa A↦?_
  iterate 5 refine ql A rfl rfl rfl λa A↦?_
  refine sdk (v := .bool false) A λa A↦?_
  refine sdm A λa A↦?_
  iterate 5 refine ql A rfl rfl rfl λa A↦?_
  refine sdk (v := .bool false) A λa A↦?_
  refine sdm A λa A↦?_
  iterate 5 refine ql A rfl rfl rfl λa A↦?_
  refine sdk (v := .bool false) A λa A↦?_
  refine sda A λa A↦?_
  refine qa (hK6 _ _ (wp_ret (hret _ _ (en1 A rfl (qg rfl) ?_))))
  refine ⟨?_, M.bel⟩
  rw [show xg ya.k yb.k = false from by rw [xt, hb7]; rfl]
theorem same_as {w : World} {ya yb : Ty} (hA1 : TyR w ya) (hB1 : TyR w yb) (ha1 : ya.fs.length ≤ 2000000) (hb1 : yb.fs.length ≤ 2000000) (ha2 : ya.ms.length ≤ 2000000) (hb2 : yb.ms.length ≤ 2000000) {v : Bool} (h : xg ya.k yb.k = v) : Calls Tryz.prog 51 #[.agg ya.c.toArray, .agg yb.c.toArray] w fun e w' => e = .returned (.bool v) ∧ Below w.heap.size w w' := h ▸ same_any hA1 hB1 ha1 hb1 ha2 hb2
theorem qma {w : World} {tz : Option Addr} {tc : Nat} {ts : List Ty} (hT : TR w tz ts) (hl : ts.length ≤ 2000000) {f : FuncId} {cs : List Value} {p : Ty → Bool} (hF : AskG (fun t => .agg t.c.toArray) Tryz.prog f cs w ts p) : Calls Tryz.prog 49 #[.slice tz ts.length tc, .func (.func f) #[] cs.toArray] w fun e w' => e = .returned (.int .i64 (ixG p ts)) ∧ Below w.heap.size w w' := by
 have M : Mg w w ([]) := Mg.start w
 refine qp (l := [(0, .slice tz ts.length tc), (1, .func (.func f) #[] cs.toArray)]) Tryz.func49 rfl Tryz.ntmps49 rfl rfl ?_
 intro Q hret hnorm hP a A
 refine wsk fun K1 hK1 => wrl (sda A λa A↦?_)
 refine qa (hK1 _ _ (wsk fun K2 hK2 => wsk fun K3 hK3 => wrl (sdm A λa A↦?_)))
 refine sdo A (qr Tryz.underlying26 rfl) λa A↦?_
 refine sdm A λa A↦?_
 refine qa (hK3 _ _ (wp_block (zq (fun m_ a w1 => ∃ (i : Nat), m_ = 1 + (ts.length - i) ∧ (i ≤ ts.length ∧ ∀ (j : Nat) u, j < i → ts[j]? = some u → p u = false) ∧ Sl a 19 [(0, .slice tz ts.length tc), (1, .func (.func f) #[] cs.toArray), (6, .slice tz ts.length tc), (7, .int .i64 (((ts.length : Nat) : Int))), (8, .int .i64 (((i : Nat) : Int)))] ∧ Mg w w1 ([])) _ ⟨0, rfl, ⟨Nat.zero_le _, fun j u h => absurd h (Nat.not_lt_zero _)⟩, A.keep _ ⟨rfl, rfl, rfl, rfl, rfl, trivial⟩, M⟩ ?_)))
 clear M A
 rintro m_ a w4 ⟨i, rfl, hinv6, A, M⟩ K5 hK5
 obtain ⟨hi0, hin9⟩ := hinv6
 refine wsk fun K7 hK7 => wrl ?_
 rcases tf (decide (((i : Nat) : Int) < ((ts.length : Nat) : Int))) with hb8 | hb8
 ·
  have hb8' := of_decide_eq_true hb8
  refine sdc A qy hb8 λa A↦?_
  refine qa (hK7 _ _ (wsk fun K9 hK9 => wp_cond_true (A.ev rfl) ?_))
  refine wp_skip (hK9 _ _ (wsk fun K10 hK10 => wp_block (wsk fun K11 hK11 => wrl (sdm A λa A↦?_))))
  refine sda A λa A↦?_
  refine qa (hK11 _ _ (wsk fun K12 hK12 => wrl ?_))
  iterate 3 refine sdm A λa A↦?_
  obtain ⟨ty13, bt14, ot15, it16, mt17, rt18, lt19, Ht20⟩ := hT.at_ (i := i) (by omega)
  refine sdo (v := .pointer (some ⟨bt14, ot15 + i * 7, none⟩)) A (zg (k := i) Tryz.underlying26 (by kernel_rfl) rfl rfl (by first | rfl | omega) lt19 (by omega)) λa A↦?_
  refine sdo (v := .agg ty13.c.toArray) A (vy M Ht20 RcB_isS_33 rfl rfl) λa A↦?_
  rcases tf (p ty13) with hb21 | hb21
  ·
   refine ju A rfl rfl rfl (xj rfl rfl hF.inv) ((hb21 ▸ hF.run ty13 _ mt17 M.bel)) ?_
   rintro _ w23 ⟨rfl, hb22⟩
   replace M := M.call hb22
   refine ⟨_, rfl, ?_⟩
   intro a A
   refine qa (hK12 _ _ (wp_cond_true (A.ev rfl) ?_))
   refine wsk fun K24 hK24 => wrl (sdm A λa A↦?_)
   refine sda A λa A↦?_
   refine qa (hK24 _ _ (wp_ret (hret _ _ (en1 A rfl (qg rfl) ?_))))
   exact ⟨by rw [qgd (p := p) hin9 it16 hb21], M.bel⟩
  ·
   refine ju A rfl rfl rfl (xj rfl rfl hF.inv) ((hb21 ▸ hF.run ty13 _ mt17 M.bel)) ?_
   rintro _ w26 ⟨rfl, hb25⟩
   replace M := M.call hb25
   refine ⟨_, rfl, ?_⟩
   intro a A
   refine qa (hK12 _ _ (wp_cond_false (A.ev rfl) ?_))
   refine wp_skip (hK10 _ _ (wrl (sdo (v := .int .i64 (((i + 1 : Nat) : Int))) A (qf rfl rfl (fun w => (jk (jq (by omega) (by omega)) w).trans (by rw [show (((i : Nat) : Int) + 1 : Int) = ((i + 1 : Nat) : Int) from by omega]))) λa A↦?_)))
   refine sdm A λa A↦?_
   refine qa ?_
   refine hK5 _ _ _ (by omega) ⟨i + 1, rfl, ⟨by omega, fun j u hj hu => if h9 : j < i then hin9 j u h9 hu else by have h8 : j = i := (by omega); subst h8; rw [it16] at hu; rw [← Option.some.inj hu]; exact hb21⟩, A.keep _ ⟨rfl, rfl, rfl, rfl, rfl, trivial⟩, M⟩
 ·
  have hb8' := of_decide_eq_false hb8
  refine sdc A qy hb8 λa A↦?_
  refine qa (hK7 _ _ (wsk fun K27 hK27 => wp_cond_false (A.ev rfl) ?_))
  refine wp_exit (hK2 _ _ (wsk fun K28 hK28 => wrl (sda A λa A↦?_)))
  refine qa (hK28 _ _ (wp_ret (hret _ _ (en1 A rfl (qg rfl) ?_))))
  exact ⟨by rw [qcb (p := p) (fun j u hj => hin9 j u (by omega))], M.bel⟩
theorem qgj {w : World} {u : Ty} {gb : Nat} {s : ByteArray} (hg : w.cell? ⟨gb, 0, none⟩ = some (.string s)) : Calls Tryz.prog 50 #[.agg u.c.toArray, .pointer (some ⟨gb, 0, none⟩)] w fun e w' => e = .returned (.bool (decide (u.ui = s))) ∧ Below w.heap.size w w' := by
 have M : Mg w w ([]) := Mg.start w
 refine qp (l := [(0, .agg u.c.toArray), (1, .pointer (some ⟨gb, 0, none⟩))]) Tryz.func50 rfl Tryz.ntmps50 rfl rfl ?_
 intro Q hret hnorm hP a A
 refine wsk fun K1 hK1 => wrl (zw (vs := u.c) (t := 33) A M rfl rfl rfl pg (zk rfl rfl) (by decide) ?_)
 intro g2 w3 M a A
 refine sda A λa A↦?_
 refine qa (hK1 _ _ (wsk fun K4 hK4 => wrl (sdo (v := .pointer (some ⟨g2, 6, none⟩)) A (qb RcB_fld_33_6 rfl rfl) λa A↦?_)))
 refine sdo A (qj M RcB_is1_9 rfl 0 rfl rfl) λa A↦?_
 refine sdo A (E.m_loadX M hg RcB_is1_9 rfl) λa A↦?_
 rcases tf (decide (u.ui = s)) with hb5 | hb5
 ·
  have hb5' := of_decide_eq_true hb5
  refine sdo (v := .bool true) A (qf rfl rfl (fun w => (jv Tryz.underlying9 w).trans (by rw [hb5] <;> rfl))) λa A↦?_
  refine sda A λa A↦?_
  refine qa (hK4 _ _ (wp_ret (hret _ _ (en1 A rfl (qg rfl) ?_))))
  exact ⟨by rw [hb5], M.bel⟩
 ·
  have hb5' := of_decide_eq_false hb5
  refine sdo (v := .bool false) A (qf rfl rfl (fun w => (jv Tryz.underlying9 w).trans (by rw [hb5] <;> rfl))) λa A↦?_
  refine sda A λa A↦?_
  refine qa (hK4 _ _ (wp_ret (hret _ _ (en1 A rfl (qg rfl) ?_))))
  exact ⟨by rw [hb5], M.bel⟩
theorem ut {w : World} {b tc rc : Nat} {tz ro : Option Addr} {ts : List Ty} {rs : List Rk} (V : SR w b tz tc ts ro rc rs) (hW : WS (ts.map Ty.k) (rs.map Rk.k)) {s : ByteArray} : Calls Tryz.prog 26 #[.pointer (some ⟨b, 0, none⟩), .string s] w fun e w' => e = .returned (.int .i64 (uix (ts.map Ty.k) s)) ∧ Below w.heap.size w w' := by
 have hkl := hW.kl
 have hrl := hW.rl
 rw [List.length_map] at hkl hrl
 have M : Mg w w ([]) := Mg.start w
 refine qp (l := [(0, .pointer (some ⟨b, 0, none⟩)), (1, .string s)]) Tryz.func26 rfl Tryz.ntmps26 rfl rfl ?_
 intro Q hret hnorm hP a A
 refine wsk fun K1 hK1 => wrl (zw (vs := [.string s]) (t := 9) A M rfl rfl rfl pg (zk rfl rfl) (by decide) ?_)
 intro g2 w3 M a A
 refine sda A λa A↦?_
 refine qa (hK1 _ _ (wsk fun K4 hK4 => wsk fun K5 hK5 => wrl (sdo A (qj M RcB_is1_9 rfl 0 rfl rfl) λa A↦?_)))
 rcases tf (decide (s = ⟨#[]⟩)) with hb6 | hb6
 ·
  have hb6' := of_decide_eq_true hb6
  refine sdo (v := .bool true) A (qf rfl rfl (fun w => (jv Tryz.underlying9 w).trans (by rw [hb6] <;> rfl))) λa A↦?_
  refine qa (hK5 _ _ (wp_cond_true (A.ev rfl) ?_))
  refine wsk fun K7 hK7 => wrl (sda A λa A↦?_)
  refine qa (hK7 _ _ (wp_ret (hret _ _ (en1 A rfl (qg rfl) ?_))))
  exact ⟨by unfold uix; rw [if_pos hb6], M.bel⟩
 ·
  have hb6' := of_decide_eq_false hb6
  refine sdo (v := .bool false) A (qf rfl rfl (fun w => (jv Tryz.underlying9 w).trans (by rw [hb6] <;> rfl))) λa A↦?_
  refine qa (hK5 _ _ (wp_cond_false (A.ev rfl) ?_))
  refine wp_skip (hK4 _ _ (wsk fun K8 hK8 => wrl (sdm A λa A↦?_)))
  refine sdo A (qs rfl) λa A↦?_
  refine sdo (v := .pointer (some ⟨b, 0, none⟩)) A (qb RcB_fld_73_0 rfl rfl) λa A↦?_
  refine sdo A (E.m_loadX M V.c0 RcB_is1_26 rfl) λa A↦?_
  refine sdo (v := .func (.func 50) #[] [.pointer (some ⟨g2, 0, none⟩)].toArray) A (vd rfl) λa A↦?_
  refine gcl A M (ef rfl rfl) (qma (p := fun t => decide (t.ui = s)) (V.T.below M.bel) (by omega) ⟨fun us w => by kernel_rfl, fun t w1 ht hb => qgj ((hb.cell (cell_lt (M.cell 0 rfl 0 rfl))).trans (M.cell 0 rfl 0 rfl))⟩) fun w10 hb9 M a A => ?_
  refine sda A λa A↦?_
  refine qa (hK8 _ _ (wp_ret (hret _ _ (en1 A rfl (qg rfl) ?_))))
  exact ⟨by unfold uix; rw [if_neg (by rw [hb6]; decide), ixG_map]; rfl, M.bel⟩
theorem again_any {w : World} {b tc rc : Nat} {tz ro : Option Addr} {ts : List Ty} {rs : List Rk} (V : SR w b tz tc ts ro rc rs) (hW : WS (ts.map Ty.k) (rs.map Rk.k)) {u : Ty} (hU : TyR w u) (hul : u.fs.length ≤ 2000000) (hum : u.ms.length ≤ 2000000) {x : Int} (h0 : 0 ≤ x) (h1 : x < ((ts.length : Nat) : Int)) {y : Ty} (hy : ts[x.toNat]? = some y) : Calls Tryz.prog 27 #[.pointer (some ⟨b, 0, none⟩), .int .i64 x, .agg u.c.toArray] w fun e w' => e = .returned (.tuple #[.int .i64 (if xg y.k u.k = true then x else 0), .int .i64 (if xg y.k u.k = true then 0 else 8)]) ∧ Below w.heap.size w w' := by
 have M : Mg w w ([]) := Mg.start w
 refine qp (l := [(0, .pointer (some ⟨b, 0, none⟩)), (1, .int .i64 x), (2, .agg u.c.toArray)]) Tryz.func27 rfl Tryz.ntmps27 rfl rfl ?_
 intro Q hret hnorm hP a A
 refine wsk fun K1 hK1 => wrl (zw (vs := u.c) (t := 33) A M rfl rfl rfl pg (zk rfl rfl) (by decide) ?_)
 intro g2 w3 M a A
 iterate 2 refine sda A λa A↦?_
 refine qa (hK1 _ _ (wsk fun K4 hK4 => wsk fun K5 hK5 => ?_))
 obtain ⟨ty6, bt7, ot8, it9, mt10, rt11, lt12, Ht13⟩ := V.T.at_ (i := x.toNat) (by omega)
 have hnf := hW.nf16 (jc it9)
 have hml := hW.ml _ (List.mem_of_getElem? (jc it9))
 rw [show ty6.k.fs.length = ty6.fs.length from rfl] at hnf
 rw [show ty6.k.fs.length = ty6.fs.length from rfl, show ty6.k.ms.length = ty6.ms.length from rfl] at hml
 obtain rfl : y = ty6 := Option.some.inj (hy.symm.trans it9)
 refine jn (S := fun w1 => Mg w w1 (.obj g2 (.cells u.c.toArray 33) :: [])) (by kernel_rfl) ?_
 replace M := M.drew
 refine qe A 0 rfl rfl rfl rfl hP (M.sub (cc (List.nil_sublist _))) (fun w1 M => qt rfl) λa A↦?_
 refine qe A 1 rfl rfl rfl rfl hP (M.sub (cc (List.nil_sublist _))) (fun w1 M => qs rfl) λa A↦?_
 refine qe (v := .pointer (some ⟨b, 0, none⟩)) A 2 rfl rfl rfl rfl hP (M.sub (cc (List.nil_sublist _))) (fun w1 M => qb RcB_fld_73_0 rfl rfl) λa A↦?_
 refine qe A 3 rfl rfl rfl rfl hP (M.sub (cc (List.nil_sublist _))) (fun w1 M => E.m_loadX M V.c0 RcB_is1_26 rfl) λa A↦?_
 refine qe A 4 rfl rfl rfl rfl hP (M.sub (cc (List.nil_sublist _))) (fun w1 M => qt rfl) λa A↦?_
 refine qe (v := .pointer (some ⟨bt7, ot8 + x.toNat * 7, none⟩)) A 5 rfl rfl rfl rfl hP (M.sub (cc (List.nil_sublist _))) (fun w1 M => zg (k := x.toNat) Tryz.underlying26 (by kernel_rfl) rfl rfl (by first | rfl | omega) lt12 (by omega)) λa A↦?_
 refine qe (v := .agg y.c.toArray) A 6 rfl rfl rfl rfl hP (M.sub (cc (List.nil_sublist _))) (fun w1 M => vy M Ht13 RcB_isS_33 rfl rfl) λa A↦?_
 refine qe A 7 rfl rfl rfl rfl hP (M.sub (cc (List.nil_sublist _))) (fun w1 M => je M RcB_isS_33 rfl 0 rfl (cs := u.c) rfl rfl) λa A↦?_
 rcases tf (xg y.k u.k) with hb14 | hb14
 ·
  refine zd (by kernel_rfl) (zy A 8 rfl rfl rfl rfl (za rfl rfl (fun w => by kernel_rfl)) (same_as (ya := y) (yb := u) (rt11.below M.bel) (hU.below M.bel) (by omega) (by omega) (by omega) (by omega) hb14) ?_)
  rintro _ w16 ⟨rfl, hb15⟩
  replace M := M.call hb15
  refine ⟨_, rfl, (M.sub (cc (List.nil_sublist _))), ?_⟩
  intro a A
  refine qe (v := .bool false) A 9 rfl rfl rfl rfl hP (M.sub (cc (List.nil_sublist _))) (fun w1 M => zm rfl jb) λa A↦?_
  refine zn (by kernel_rfl) ?_
  refine hK5 _ _ (wp_cond_false (A.ev rfl) ?_)
  refine wp_skip (hK4 _ _ (wsk fun K17 hK17 => wrl (sdm A λa A↦?_)))
  iterate 2 refine sda A λa A↦?_
  refine qa (hK17 _ _ (wp_ret (hret _ _ (en2 A rfl (qg rfl) (qg rfl) ?_))))
  refine ⟨?_, M.bel⟩
  rw [hb14]
  rfl
 ·
  refine zd (by kernel_rfl) (zy A 8 rfl rfl rfl rfl (za rfl rfl (fun w => by kernel_rfl)) (same_as (ya := y) (yb := u) (rt11.below M.bel) (hU.below M.bel) (by omega) (by omega) (by omega) (by omega) hb14) ?_)
  rintro _ w19 ⟨rfl, hb18⟩
  replace M := M.call hb18
  refine ⟨_, rfl, (M.sub (cc (List.nil_sublist _))), ?_⟩
  intro a A
  refine qe (v := .bool true) A 9 rfl rfl rfl rfl hP (M.sub (cc (List.nil_sublist _))) (fun w1 M => zm rfl jb) λa A↦?_
  refine zn (by kernel_rfl) ?_
  refine hK5 _ _ (wp_cond_true (A.ev rfl) ?_)
  refine wsk fun K20 hK20 => wrl ?_
  iterate 2 refine sda A λa A↦?_
  refine qa (hK20 _ _ (wp_ret (hret _ _ (en2 A rfl (qg rfl) (qg rfl) ?_))))
  refine ⟨?_, M.bel⟩
  rw [hb14]
  rfl
theorem clBo_w {w : World} {so : Option Addr} {ca : Nat} {l : List Bool} (hb : E.Rl w so l) (hl : l.length ≤ 1000000000) : Calls Tryz.prog 54 #[.slice so l.length ca] w fun e w' => ∃ so' ca', e = .returned (.slice so' l.length ca') ∧ Mg w w' [.row 4 1 (.slice so' l.length ca') l.length (E.boolC l)] := by
 have M : Mg w w ([]) := Mg.start w
 refine qp (l := [(0, .slice so l.length ca)]) Tryz.func54 rfl Tryz.ntmps54 rfl rfl ?_
 intro Q hret hnorm hP a A
 refine wsk fun K1 hK1 => wrl (sda A λa A↦?_)
 refine qa (hK1 _ _ (wsk fun K2 hK2 => wrl (sdm A λa A↦?_)))
 replace M := M.nilRow (qk qm) 4 1
 refine js (e := 4) (sz := 1) (k := 0) (q := 0) (m := l.length) (xs := []) (news := E.boolC l) (L' := fun v3 => (.row 4 1 (v3) (0 + l.length) ([] ++ E.boolC l) :: [])) A rfl rfl rfl (jw (z := .bool false) (sz := 1) (by_ := 1) Tryz.underlying31 (by kernel_rfl) rfl rfl rfl M 0 rfl rfl rfl (E.boolC_n l) (hb.below M.bel) (E.boolC_one l) (by omega)) (fun _ => rfl) ?_
 intro v3 w4 M a A
 refine sda A λa A↦?_
 refine qa (hK2 _ _ (wp_ret (hret _ _ (en1 A rfl (qg rfl) ?_))))
 rw [Nat.zero_add, List.nil_append] at M
 obtain ⟨so9, ca9, rfl⟩ := zx (M.has 0 rfl)
 exact ⟨_, _, rfl, M⟩
theorem ku {w : World} {u : Ty} (hU : TyR w u) (hul : u.fs.length ≤ 2000000) (hum : u.ms.length ≤ 2000000) (hz1 : u.nm.size ≤ 281474976710656) (hz2 : u.ui.size ≤ 281474976710656) (huz : ∀ s ∈ u.fs, s.size ≤ 281474976710656) : Calls Tryz.prog 29 #[.agg u.c.toArray] w fun e w' => ∃ t2 : Ty, e = .returned (.agg t2.c.toArray) ∧ t2.k = u.k ∧ Mg w w' [.row 9 1 (.slice t2.fo t2.fs.length t2.fc) t2.fs.length (E.strC t2.fs), .row 4 1 (.slice t2.mo t2.ms.length t2.mc) t2.ms.length (E.boolC t2.ms)] := by
 have M : Mg w w ([]) := Mg.start w
 refine qp (l := [(0, .agg u.c.toArray)]) Tryz.func29 rfl Tryz.ntmps29 rfl rfl ?_
 intro Q hret hnorm hP a A
 refine wsk fun K1 hK1 => wrl (zw (vs := u.c) (t := 33) A M rfl rfl rfl pg (zk rfl rfl) (by decide) ?_)
 intro g2 w3 M a A
 refine zw (vs := [.string (⟨#[]⟩), .int .i64 0, .slice none 0 0, .slice none 0 0, .bool false, .bool false, .string (⟨#[]⟩)]) (t := 33) A M rfl rfl rfl pg (zi (z := .agg #[.string (⟨#[]⟩), .int .i64 0, .slice none 0 0, .slice none 0 0, .bool false, .bool false, .string (⟨#[]⟩)]) (by kernel_rfl) rfl) (by decide) ?_
 intro g4 w5 M a A
 refine qa (hK1 _ _ (wsk fun K6 hK6 => jn (S := fun w1 => Mg w w1 (.obj g2 (.cells u.c.toArray 33) :: [])) (by kernel_rfl) ?_))
 replace M := M.drew
 refine qe (v := .pointer (some ⟨g2, 0, none⟩)) A 0 rfl rfl rfl rfl hP (M.sub (cn (cc (List.nil_sublist _)))) (fun w1 M => qb RcB_fld_33_0 rfl rfl) λa A↦?_
 refine qe A 1 rfl rfl rfl rfl hP (M.sub (cn (cc (List.nil_sublist _)))) (fun w1 M => qj M RcB_is1_9 rfl 0 rfl rfl) λa A↦?_
 refine qe (v := .pointer (some ⟨g2, 1, none⟩)) A 3 rfl rfl rfl rfl hP (M.sub (cn (cc (List.nil_sublist _)))) (fun w1 M => qb RcB_fld_33_1 rfl rfl) λa A↦?_
 refine qe A 4 rfl rfl rfl rfl hP (M.sub (cn (cc (List.nil_sublist _)))) (fun w1 M => qj M RcB_is1_3 rfl 0 rfl rfl) λa A↦?_
 refine qe (v := .pointer (some ⟨g2, 2, none⟩)) A 5 rfl rfl rfl rfl hP (M.sub (cn (cc (List.nil_sublist _)))) (fun w1 M => qb RcB_fld_33_2 rfl rfl) λa A↦?_
 refine qe A 6 rfl rfl rfl rfl hP (M.sub (cn (cc (List.nil_sublist _)))) (fun w1 M => qj M RcB_is1_30 rfl 0 rfl rfl) λa A↦?_
 refine qe (v := .pointer (some ⟨g2, 3, none⟩)) A 8 rfl rfl rfl rfl hP (M.sub (cn (cc (List.nil_sublist _)))) (fun w1 M => qb RcB_fld_33_3 rfl rfl) λa A↦?_
 refine qe A 9 rfl rfl rfl rfl hP (M.sub (cn (cc (List.nil_sublist _)))) (fun w1 M => qj M RcB_is1_31 rfl 0 rfl rfl) λa A↦?_
 refine qe (v := .pointer (some ⟨g2, 4, none⟩)) A 11 rfl rfl rfl rfl hP (M.sub (cn (cc (List.nil_sublist _)))) (fun w1 M => qb RcB_fld_33_4 rfl rfl) λa A↦?_
 refine qe A 12 rfl rfl rfl rfl hP (M.sub (cn (cc (List.nil_sublist _)))) (fun w1 M => qj M RcB_is1_4 rfl 0 rfl rfl) λa A↦?_
 refine qe (v := .pointer (some ⟨g2, 5, none⟩)) A 13 rfl rfl rfl rfl hP (M.sub (cn (cc (List.nil_sublist _)))) (fun w1 M => qb RcB_fld_33_5 rfl rfl) λa A↦?_
 refine qe A 14 rfl rfl rfl rfl hP (M.sub (cn (cc (List.nil_sublist _)))) (fun w1 M => qj M RcB_is1_4 rfl 0 rfl rfl) λa A↦?_
 refine qe (v := .pointer (some ⟨g2, 6, none⟩)) A 15 rfl rfl rfl rfl hP (M.sub (cn (cc (List.nil_sublist _)))) (fun w1 M => qb RcB_fld_33_6 rfl rfl) λa A↦?_
 refine qe A 16 rfl rfl rfl rfl hP (M.sub (cn (cc (List.nil_sublist _)))) (fun w1 M => qj M RcB_is1_9 rfl 0 rfl rfl) λa A↦?_
 refine zd (by kernel_rfl) (zy A 2 rfl rfl rfl rfl (za rfl rfl (fun w => by kernel_rfl)) (clone_any (by first | exact hz1 | exact hz2)) ?_)
 rintro _ w8 ⟨rfl, hb7⟩
 replace M := M.call hb7
 refine ⟨_, rfl, (M.sub (cn (cc (List.nil_sublist _)))), ?_⟩
 intro a A
 refine zd (by kernel_rfl) (zy A 7 rfl rfl rfl rfl (za rfl rfl (fun w => by kernel_rfl)) (E.texts_any (hU.f.below M.bel) (by omega) huz) ?_)
 rintro _ w12 ⟨so9, ca10, rfl, hM11⟩
 replace M : Mg w w12 (.row 9 1 (.slice so9 u.fs.length ca10) u.fs.length (E.strC u.fs) :: .obj g4 (.cells #[.string (⟨#[]⟩), .int .i64 0, .slice none 0 0, .slice none 0 0, .bool false, .bool false, .string (⟨#[]⟩)] 33) :: .obj g2 (.cells u.c.toArray 33) :: []) := (M.both hM11 (qh (by simp) (qh (by simp) (qk qm))) (qh (by simp) (qk qm)))
 refine ⟨_, rfl, (M.sub (cn (cn (cc (List.nil_sublist _))))), ?_⟩
 intro a A
 refine zd (by kernel_rfl) (zy A 10 rfl rfl rfl rfl (za rfl rfl (fun w => by kernel_rfl)) (clBo_w (hU.m.below M.bel) (by omega)) ?_)
 rintro _ w16 ⟨so13, ca14, rfl, hM15⟩
 replace M : Mg w w16 (.row 4 1 (.slice so13 u.ms.length ca14) u.ms.length (E.boolC u.ms) :: .row 9 1 (.slice so9 u.fs.length ca10) u.fs.length (E.strC u.fs) :: .obj g4 (.cells #[.string (⟨#[]⟩), .int .i64 0, .slice none 0 0, .slice none 0 0, .bool false, .bool false, .string (⟨#[]⟩)] 33) :: .obj g2 (.cells u.c.toArray 33) :: []) := (M.both hM15 (qh (by simp) (qh (by simp) (qh (by simp) (qk qm)))) (qh (by simp) (qk qm)))
 refine ⟨_, rfl, (M.sub (cn (cn (cn (cc (List.nil_sublist _)))))), ?_⟩
 intro a A
 refine zd (by kernel_rfl) (zy A 17 rfl rfl rfl rfl (za rfl rfl (fun w => by kernel_rfl)) (clone_any (by first | exact hz1 | exact hz2)) ?_)
 rintro _ w18 ⟨rfl, hb17⟩
 replace M := M.call hb17
 refine ⟨_, rfl, (M.sub (cn (cn (cn (cc (List.nil_sublist _)))))), ?_⟩
 intro a A
 refine qe (v := .agg #[.string u.nm, .int .i64 u.par, .slice so9 u.fs.length ca10, .slice so13 u.ms.length ca14, .bool u.sl, .bool u.op, .string u.ui]) A 18 rfl rfl rfl rfl hP (M.sub (cn (cn (cn (cc (List.nil_sublist _)))))) (fun w1 M => zj rfl (fun w => by kernel_rfl)) λa A↦?_
 refine zd (by kernel_rfl) (vm (us := [.string u.nm, .int .i64 u.par, .slice so9 u.fs.length ca10, .slice so13 u.ms.length ca14, .bool u.sl, .bool u.op, .string u.ui]) (L' := (.row 4 1 (.slice so13 u.ms.length ca14) u.ms.length (E.boolC u.ms) :: .row 9 1 (.slice so9 u.fs.length ca10) u.fs.length (E.strC u.fs) :: .obj g4 (.cells #[.string u.nm, .int .i64 u.par, .slice so9 u.fs.length ca10, .slice so13 u.ms.length ca14, .bool u.sl, .bool u.op, .string u.ui] 33) :: .obj g2 (.cells u.c.toArray 33) :: [])) A M 19 rfl rfl rfl (qz rfl rfl rfl (by kernel_rfl) M 2 rfl rfl rfl) 2 rfl rfl rfl ?_)
 intro w19 M
 refine ⟨(M.sub (cn (cn (cn (cc (List.nil_sublist _)))))), ?_⟩
 refine zn (by kernel_rfl) ?_
 refine hK6 _ _ (wp_ret (hret _ _ (en1 A rfl (jy M RcB_isS_33 rfl 2 rfl (cs := [.string u.nm, .int .i64 u.par, .slice so9 u.fs.length ca10, .slice so13 u.ms.length ca14, .bool u.sl, .bool u.op, .string u.ui]) rfl rfl) ?_)))
 replace M : Mg w w19 (.row 9 1 (.slice so9 u.fs.length ca10) u.fs.length (E.strC u.fs) :: .row 4 1 (.slice so13 u.ms.length ca14) u.ms.length (E.boolC u.ms) :: []) := (M.bring 1 rfl rfl).sub (cc (cc (cn (cn (.refl _)))))
 exact ⟨⟨u.nm, u.par, so9, ca10, u.fs, so13, ca14, u.ms, u.sl, u.op, u.ui⟩, rfl, rfl, M⟩
section
variable {ts : List Ty} {rs : List Rk} {r t i : Int}
theorem isS_r (h : okT rs.length r = false) : isS (ts.map Ty.k) (rs.map Rk.k) r t = (false, 7) := by
  unfold isS
  rw [if_neg (by rw [List.length_map, h]; simp)]
theorem isS_t (h : okT ts.length t = false) : isS (ts.map Ty.k) (rs.map Rk.k) r t = (false, 7) := by
  unfold isS
  rw [if_neg (by rw [List.length_map, List.length_map, h]; simp)]
theorem isS_ok (h1 : okT rs.length r = true) (h2 : okT ts.length t = true) {x : Rk} (hx : rs[r.toNat]? = some x) : isS (ts.map Ty.k) (rs.map Rk.k) r t = ((chT (prs (ts.map Ty.k)) ((x.kd : Nat) : Int)).any fun z => t == z, 0) := by
  unfold isS
  rw [if_pos (by rw [List.length_map, List.length_map]; exact ⟨h1, h2⟩), qge (xf hx)]
  rfl
theorem qjc {ks : List TK} {rr : List (Nat × List Tr)} (h : (isS ks rr r t).2 = 0) : okT rr.length r = true ∧ okT ks.length t = true := by
  unfold isS at h
  split at h
  · rename_i h1; exact h1
  · exact absurd h (by decide)
theorem isS_err {ks : List TK} {rr : List (Nat × List Tr)} (h : (isS ks rr r t).2 ≠ 0) : isS ks rr r t = (false, 7) := by
  unfold isS at h ⊢
  split at h
  · exact absurd rfl h
  · rename_i h1; rw [if_neg h1]
theorem plS_err {ks : List TK} {rr : List (Nat × List Tr)} (h : (isS ks rr r t).2 ≠ 0) : plS ks rr r t i = (0, (isS ks rr r t).2) := by
  rw [isS_err h]
  unfold plS
  rw [if_neg h]
theorem qjd {ks : List TK} {rr : List (Nat × List Tr)} (h : (isS ks rr r t).2 = 0) (h1 : (isS ks rr r t).1 = false) : plS ks rr r t i = (0, 10) := by
  unfold plS
  rw [if_pos h, if_neg (by rw [h1]; decide)]
theorem qha {ks : List TK} {rr : List (Nat × List Tr)} (h : (isS ks rr r t).2 = 0) (h1 : (isS ks rr r t).1 = true) {k : TK} (hk : ks[t.toNat]? = some k) (hi : i < 0 ∨ ((k.fs.length : Nat) : Int) ≤ i) : plS ks rr r t i = (0, 1) := by
  unfold plS
  rw [if_pos h, if_pos h1, if_neg (by rw [qbj hk]; omega)]
theorem qmb {ks : List TK} {rr : List (Nat × List Tr)} (h : (isS ks rr r t).2 = 0) (h1 : (isS ks rr r t).1 = true) {k : TK} (hk : ks[t.toNat]? = some k) (h2 : 0 ≤ i) (h3 : i < ((k.fs.length : Nat) : Int)) : plS ks rr r t i = (((cnt ks k.par : Nat) : Int) + i, 0) := by
  unfold plS
  rw [if_pos h, if_pos h1, qbj hk, if_pos ⟨h2, h3⟩, qgc hk]
end
theorem qje {ps : List Int} (hw : Wf ps) : ∀ (n : Nat) (s t : Int), -1 ≤ s → (s + 1).toNat ≤ n → t ∈ chn ps n s → ∃ pre, chn ps n s = pre ++ chT ps t
  | 0, s, t, _, _, h => by cases h
  | n + 1, s, t, h0, hn, h => by
    by_cases hs : s < 0
    · rw [chn, if_pos hs] at h; cases h
    · have hp := hw.at_ (t := s) (by omega)
      by_cases e : t = s
      · subst e
        exact ⟨[], by rw [List.nil_append]; exact qbi hw _ _ _ h0 hn (Nat.le_refl _)⟩
      · rw [chn, if_neg hs] at h ⊢
        rcases List.mem_cons.1 h with h | h
        · exact absurd h e
        · obtain ⟨pre, hq⟩ := qje hw n _ t hp.1 (by omega) h
          exact ⟨s :: pre, by rw [hq]; rfl⟩
theorem cntP_le {ks : List TK} (hw : Wf (prs ks)) {s t : Int} (h0 : -1 ≤ s) (h : t ∈ chT (prs ks) s) : cnt ks t ≤ cnt ks s := by
  obtain ⟨pre, e⟩ := qje hw _ s t h0 (Nat.le_refl _) h
  unfold cnt
  rw [show chT (prs ks) s = pre ++ chT (prs ks) t from e]
  unfold qdc
  rw [List.map_append, List.sum_append]
  omega
/-- A field that is found. -/
theorem pl_in {ks : List TK} {rr : List (Nat × List Tr)} (hW : WS ks rr) {r t i : Int} (h : (plS ks rr r t i).2 = 0) : ∃ x k, rr[r.toNat]? = some x ∧ ks[t.toNat]? = some k ∧ 0 ≤ r ∧ r < ((rr.length : Nat) : Int) ∧ 0 ≤ t ∧ t < ((ks.length : Nat) : Int) ∧ 0 ≤ i ∧ i < ((k.fs.length : Nat) : Int) ∧ plS ks rr r t i = (((cnt ks k.par : Nat) : Int) + i, 0) ∧ 0 ≤ (plS ks rr r t i).1 ∧ (plS ks rr r t i).1 < ((x.2.length : Nat) : Int) ∧ x.2.length ≤ 16 := by
  by_cases h1 : (isS ks rr r t).2 = 0
  · obtain ⟨q1, q2⟩ := qjc h1
    have a1 := ka q1
    have a2 := ka q2
    cases h2 : (isS ks rr r t).1 with
    | false => rw [qjd h1 h2] at h; exact absurd h (by decide)
    | true =>
      have hk : ks[t.toNat]? = some (ks[t.toNat]'(by omega)) := List.getElem?_eq_getElem _
      have hx : rr[r.toNat]? = some (rr[r.toNat]'(by omega)) := List.getElem?_eq_getElem _
      generalize ks[t.toNat]'(by omega) = k at hk
      generalize rr[r.toNat]'(by omega) = x at hx
      by_cases h3 : 0 ≤ i ∧ i < ((k.fs.length : Nat) : Int)
      · have e := qmb h1 h2 hk h3.1 h3.2
        have hr := hW.rk x (List.mem_of_getElem? hx)
        have hm : t ∈ chT (prs ks) ((x.1 : Nat) : Int) := by
          unfold isS at h2
          rw [if_pos ⟨q1, q2⟩, qge hx] at h2
          obtain ⟨z, hz, ez⟩ := List.any_eq_true.1 h2
          rw [show t = z from eq_of_beq ez]
          exact hz
        have hc := cntP_le hW.wf (by omega) hm
        have hs := vz hW.wf a2.1 hk
        have h16 := hW.cnt16 (t := ((x.1 : Nat) : Int)) (by omega)
        refine ⟨x, k, hx, hk, a1.1, a1.2, a2.1, a2.2, h3.1, h3.2, e, ?_, ?_, by omega⟩
        · rw [e]; show 0 ≤ ((cnt ks k.par : Nat) : Int) + i; omega
        · rw [e]; show ((cnt ks k.par : Nat) : Int) + i < _; omega
      · rw [qha h1 h2 hk (by omega)] at h; exact absurd h (by show (1 : Int) ≠ 0; decide)
  · rw [plS_err h1] at h; exact absurd h h1
/-- Get: the datum. -/
def gtT (ks : List TK) (rr : List (Nat × List Tr)) (r t i : Int) : Tr :=
  if (plS ks rr r t i).2 = 0 then (((rr[r.toNat]?).map fun x => (x.2[(plS ks rr r t i).1.toNat]?).getD jg.tr).getD jg.tr) else jg.tr
theorem gtT_ok {ks : List TK} {rr : List (Nat × List Tr)} {r t i : Int} (h : (plS ks rr r t i).2 = 0) {x : Nat × List Tr} (hx : rr[r.toNat]? = some x) {d : Tr} (hd : x.2[(plS ks rr r t i).1.toNat]? = some d) : gtT ks rr r t i = d := by
  unfold gtT
  rw [if_pos h, hx]
  show (x.2[(plS ks rr r t i).1.toNat]?).getD jg.tr = d
  rw [hd]; rfl
theorem gtT_no {ks : List TK} {rr : List (Nat × List Tr)} {r t i : Int} (h : (plS ks rr r t i).2 ≠ 0) : gtT ks rr r t i = jg.tr := if_neg h
theorem tofS_no {ks : List TK} {rs : List Rk} {r : Int} (h : okT rs.length r = false) : uw ks (rs.map Rk.k) r = (0, 7) := by
  unfold uw
  rw [if_neg (by rw [List.length_map, h]; decide)]
theorem tofS_opq {ks : List TK} {rs : List Rk} {r : Int} (h : okT rs.length r = true) {x : Rk} (hx : rs[r.toNat]? = some x) (ho : opq ks ((x.kd : Nat) : Int) = true) : uw ks (rs.map Rk.k) r = (0, 10) := by
  unfold uw
  rw [if_pos (by rw [List.length_map]; exact h), qge (xf hx), if_pos (by exact ho)]
theorem tofS_ok {ks : List TK} {rs : List Rk} {r : Int} (h : okT rs.length r = true) {x : Rk} (hx : rs[r.toNat]? = some x) (ho : opq ks ((x.kd : Nat) : Int) = false) : uw ks (rs.map Rk.k) r = (((x.kd : Nat) : Int), 0) := by
  unfold uw
  rw [if_pos (by rw [List.length_map]; exact h), qge (xf hx), if_neg (by rw [show opq ks (((x.k).1 : Nat) : Int) = false from ho]; decide)]
  rfl
theorem mkS_no {ts : List Ty} {n : Nat} {t : Int} {vs : List Tr} (h : okT ts.length t = false) : mkS (ts.map Ty.k) n t vs = (0, 7, false) := by
  unfold mkS
  rw [if_neg (by rw [List.length_map, h]; decide)]
theorem mkS_arg {ts : List Ty} {n : Nat} {t : Int} {vs : List Tr} (h : okT ts.length t = true) (h1 : vs.length ≠ cnt (ts.map Ty.k) t) : mkS (ts.map Ty.k) n t vs = (0, 1, false) := by
  unfold mkS
  rw [if_pos (by rw [List.length_map]; exact h), if_neg h1]
theorem mkS_form {ts : List Ty} {n : Nat} {t : Int} {vs : List Tr} (h : okT ts.length t = true) (h1 : vs.length = cnt (ts.map Ty.k) t) (h2 : vs.all (jf zp) = false) : mkS (ts.map Ty.k) n t vs = (0, 2, false) := by
  unfold mkS
  rw [if_pos (by rw [List.length_map]; exact h), if_pos h1, if_neg (by rw [h2]; decide)]
theorem mkS_full {ts : List Ty} {n : Nat} {t : Int} {vs : List Tr} (h : okT ts.length t = true) (h1 : vs.length = cnt (ts.map Ty.k) t) (h2 : vs.all (jf zp) = true) (h3 : ¬ n < 20000) : mkS (ts.map Ty.k) n t vs = (0, 9, false) := by
  unfold mkS
  rw [if_pos (by rw [List.length_map]; exact h), if_pos h1, if_pos h2, if_neg h3]
theorem mkS_ok {ts : List Ty} {n : Nat} {t : Int} {vs : List Tr} (h : okT ts.length t = true) (h1 : vs.length = cnt (ts.map Ty.k) t) (h2 : vs.all (jf zp) = true) (h3 : n < 20000) : mkS (ts.map Ty.k) n t vs = (((n : Nat) : Int), 0, true) := by
  unfold mkS
  rw [if_pos (by rw [List.length_map]; exact h), if_pos h1, if_pos h2, if_pos h3]
theorem RcC_is1_26 : Is1 Tryz.prog 26 := ⟨⟨_, Tryz.underlying26, rfl⟩, by kernel_rfl⟩
theorem RcC_is1_3 : Is1 Tryz.prog 3 := ⟨⟨_, Tryz.underlying3, rfl⟩, by kernel_rfl⟩
theorem RcC_is1_30 : Is1 Tryz.prog 30 := ⟨⟨_, Tryz.underlying30, rfl⟩, by kernel_rfl⟩
theorem RcC_is1_34 : Is1 Tryz.prog 34 := ⟨⟨_, Tryz.underlying34, rfl⟩, by kernel_rfl⟩
theorem RcC_is1_71 : Is1 Tryz.prog 71 := ⟨⟨_, Tryz.underlying71, rfl⟩, by kernel_rfl⟩
theorem RcC_fld_33_1 : FieldAt Tryz.prog 33 1 1 := ⟨_, _, Tryz.underlying33, rfl, rfl, by kernel_rfl⟩
theorem RcC_fld_33_2 : FieldAt Tryz.prog 33 2 2 := ⟨_, _, Tryz.underlying33, rfl, rfl, by kernel_rfl⟩
theorem RcC_fld_73_0 : FieldAt Tryz.prog 73 0 0 := ⟨_, _, Tryz.underlying73, rfl, rfl, by kernel_rfl⟩
theorem RcC_fld_73_1 : FieldAt Tryz.prog 73 1 1 := ⟨_, _, Tryz.underlying73, rfl, rfl, by kernel_rfl⟩
theorem RcC_fld_86_0 : FieldAt Tryz.prog 86 0 0 := ⟨_, _, Tryz.underlying86, rfl, rfl, by kernel_rfl⟩
theorem RcC_fld_86_1 : FieldAt Tryz.prog 86 1 1 := ⟨_, _, Tryz.underlying86, rfl, rfl, by kernel_rfl⟩
theorem RcC_isS_42 : IsS Tryz.prog 42 11 := ⟨⟨_, Tryz.underlying42⟩, by kernel_rfl⟩
theorem is_any {w : World} {b tc rc : Nat} {tz ro : Option Addr} {ts : List Ty} {rs : List Rk} (S : SR w b tz tc ts ro rc rs) (hW : WS (ts.map Ty.k) (rs.map Rk.k)) {r t : Int} : Calls Tryz.prog 18 #[.pointer (some ⟨b, 0, none⟩), .int .i64 r, .int .i64 t] w fun e w' => e = .returned (.tuple #[.bool (isS (ts.map Ty.k) (rs.map Rk.k) r t).1, .int .i64 (isS (ts.map Ty.k) (rs.map Rk.k) r t).2]) ∧ Below w.heap.size w w' := by
 have hkl := hW.kl
 have hrl := hW.rl
 rw [List.length_map] at hkl hrl
 have M : Mg w w ([]) := Mg.start w
 refine qp (l := [(0, .pointer (some ⟨b, 0, none⟩)), (1, .int .i64 r), (2, .int .i64 t)]) Tryz.func18 rfl Tryz.ntmps18 rfl rfl ?_
 intro Q hret hnorm hP a A
 refine wsk fun K1 hK1 => wrl ?_
 iterate 2 refine sda A λa A↦?_
 refine qa (hK1 _ _ (wsk fun K2 hK2 => wsk fun K3 hK3 => wrl ?_))
 iterate 2 refine sdm A λa A↦?_
 rcases tf (okT rs.length r) with hb4 | hb4
 ·
  have hx6 := ka hb4
  refine gcl A M (ef rfl rfl) (kq (S.below M.bel) hW hb4) fun w7 hb5 M a A => ?_
  refine sda A λa A↦?_
  refine qa (hK3 _ _ (wsk fun K8 hK8 => wrl (sdm A λa A↦?_)))
  refine sdo (v := .bool false) A (qf rfl rfl (fun w => by kernel_rfl)) λa A↦?_
  refine qa (hK8 _ _ (wp_cond_false (A.ev rfl) ?_))
  refine wp_skip (hK2 _ _ (wsk fun K9 hK9 => wsk fun K10 hK10 => wrl ?_))
  iterate 2 refine sdm A λa A↦?_
  rcases tf (okT ts.length t) with hb11 | hb11
  ·
   have hx13 := ka hb11
   refine gcl A M (ef rfl rfl) (vb (S.below M.bel) hW hb11) fun w14 hb12 M a A => ?_
   refine sda A λa A↦?_
   refine qa (hK10 _ _ (wsk fun K15 hK15 => wrl (sdm A λa A↦?_)))
   refine sdo (v := .bool false) A (qf rfl rfl (fun w => by kernel_rfl)) λa A↦?_
   refine qa (hK15 _ _ (wp_cond_false (A.ev rfl) ?_))
   refine wp_skip (hK9 _ _ (wsk fun K16 hK16 => ?_))
   obtain ⟨rk17, br18, or19, ir20, mr21, rr22, lr23, Hr24⟩ := S.R.at_ (i := r.toNat) (by omega)
   have hrk25 := hW.rk _ (List.mem_of_getElem? (xf ir20))
   rw [List.length_map, show rk17.k.1 = rk17.kd from rfl, show rk17.k.2.length = rk17.vs.length from List.length_map _] at hrk25
   refine wrl ?_
   iterate 2 refine sdm A λa A↦?_
   refine sdo A (qs rfl) λa A↦?_
   refine sdo (v := .pointer (some ⟨b, 1, none⟩)) A (qb RcC_fld_73_1 rfl rfl) λa A↦?_
   refine sdo A (E.m_loadX M S.c1 RcC_is1_71 rfl) λa A↦?_
   refine sdm A λa A↦?_
   refine sdo (v := .pointer (some ⟨br18, or19 + r.toNat * 2, none⟩)) A (zg (k := r.toNat) Tryz.underlying71 (by kernel_rfl) rfl rfl (by first | rfl | omega) lr23 (by omega)) λa A↦?_
   refine sdo (v := .pointer (some ⟨br18, or19 + r.toNat * 2, none⟩)) A (qb RcC_fld_86_0 rfl rfl) λa A↦?_
   refine sdo A (jo (j := 0) M Hr24 RcC_is1_3 rfl rfl rfl) λa A↦?_
   refine sct A (ef rfl rfl) (uk (S.below M.bel) hW (by omega) (by omega)) ?_
   rintro _ w29 ⟨so26, ca27, rfl, hM28⟩
   replace M : Mg w w29 (.row 3 1 (.slice so26 ((chT (prs (ts.map Ty.k)) (((rk17.kd : Nat) : Int))).length) ca27) ((chT (prs (ts.map Ty.k)) (((rk17.kd : Nat) : Int))).length) (inC (chT (prs (ts.map Ty.k)) (((rk17.kd : Nat) : Int)))) :: []) := (M.both hM28 (qk qm) (qh (by simp) (qk qm)))
   refine ⟨_, rfl, ?_⟩
   intro a A
   refine sdm A λa A↦?_
   refine gcl A M (ef rfl rfl) (qdd (l := (chT (prs (ts.map Ty.k)) (((rk17.kd : Nat) : Int)))) (rc_own (M.has 0 rfl)) (by have h9 := qaa (prs (ts.map Ty.k)) (((rk17.kd : Nat) : Int)); omega)) fun w31 hb30 M a A => ?_
   iterate 2 refine sda A λa A↦?_
   refine qa (hK16 _ _ (wp_ret (hret _ _ (en2 A rfl (qg rfl) (qg rfl) ?_))))
   exact ⟨by rw [isS_ok hb4 hb11 ir20], M.bel⟩
  ·
   have hx33 := qig hb11
   refine gcl A M (ef rfl rfl) (kb (S.below M.bel) hW hb11) fun w34 hb32 M a A => ?_
   refine sda A λa A↦?_
   refine qa (hK10 _ _ (wsk fun K35 hK35 => wrl (sdm A λa A↦?_)))
   refine sdo (v := .bool true) A (qf rfl rfl (fun w => by kernel_rfl)) λa A↦?_
   refine qa (hK35 _ _ (wp_cond_true (A.ev rfl) ?_))
   refine wsk fun K36 hK36 => wrl (sdm A λa A↦?_)
   iterate 2 refine sda A λa A↦?_
   refine qa (hK36 _ _ (wp_ret (hret _ _ (en2 A rfl (qg rfl) (qg rfl) ?_))))
   exact ⟨by rw [isS_t hb11], M.bel⟩
 ·
  have hx38 := qig hb4
  refine gcl A M (ef rfl rfl) (kr (S.below M.bel) hW hb4) fun w39 hb37 M a A => ?_
  refine sda A λa A↦?_
  refine qa (hK3 _ _ (wsk fun K40 hK40 => wrl (sdm A λa A↦?_)))
  refine sdo (v := .bool true) A (qf rfl rfl (fun w => by kernel_rfl)) λa A↦?_
  refine qa (hK40 _ _ (wp_cond_true (A.ev rfl) ?_))
  refine wsk fun K41 hK41 => wrl (sdm A λa A↦?_)
  iterate 2 refine sda A λa A↦?_
  refine qa (hK41 _ _ (wp_ret (hret _ _ (en2 A rfl (qg rfl) (qg rfl) ?_))))
  exact ⟨by rw [isS_r hb4], M.bel⟩
theorem un {w : World} {b tc rc : Nat} {tz ro : Option Addr} {ts : List Ty} {rs : List Rk} (S : SR w b tz tc ts ro rc rs) (hW : WS (ts.map Ty.k) (rs.map Rk.k)) {r t i : Int} : Calls Tryz.prog 37 #[.pointer (some ⟨b, 0, none⟩), .int .i64 r, .int .i64 t, .int .i64 i] w fun e w' => e = .returned (.tuple #[.int .i64 (plS (ts.map Ty.k) (rs.map Rk.k) r t i).1, .int .i64 (plS (ts.map Ty.k) (rs.map Rk.k) r t i).2]) ∧ Below w.heap.size w w' := by
 have hkl := hW.kl
 have hrl := hW.rl
 rw [List.length_map] at hkl hrl
 have M : Mg w w ([]) := Mg.start w
 refine qp (l := [(0, .pointer (some ⟨b, 0, none⟩)), (1, .int .i64 r), (2, .int .i64 t), (3, .int .i64 i)]) Tryz.func37 rfl Tryz.ntmps37 rfl rfl ?_
 intro Q hret hnorm hP a A
 refine wsk fun K1 hK1 => wrl ?_
 iterate 2 refine sda A λa A↦?_
 refine qa (hK1 _ _ (wsk fun K2 hK2 => wrl ?_))
 iterate 3 refine sdm A λa A↦?_
 refine gcl A M (ef rfl rfl) (is_any (S.below M.bel) hW) fun w4 hb3 M a A => ?_
 refine sdm A λa A↦?_
 iterate 2 refine sdo A (ze (vs := [.bool ((isS (ts.map Ty.k) (rs.map Rk.k) r t).1), .int .i64 ((isS (ts.map Ty.k) (rs.map Rk.k) r t).2)]) rfl rfl) λa A↦?_
 iterate 2 refine sda A λa A↦?_
 refine qa (hK2 _ _ (wsk fun K5 hK5 => wp_block (wsk fun K6 hK6 => wrl (sdm A λa A↦?_))))
 rcases tf (((isS (ts.map Ty.k) (rs.map Rk.k) r t).2 != 0)) with hb7 | hb7
 ·
  have hb7' := bne_iff_ne.1 hb7
  refine sdc A ja hb7 λa A↦?_
  refine sda A λa A↦?_
  refine qa (hK6 _ _ (wp_cond_true (A.ev rfl) ?_))
  refine wsk fun K8 hK8 => wrl (sdm A λa A↦?_)
  iterate 2 refine sda A λa A↦?_
  refine qa (hK8 _ _ (wp_ret (hret _ _ (en2 A rfl (qg rfl) (qg rfl) ?_))))
  exact ⟨by rw [plS_err (i := i) (show (isS (ts.map Ty.k) (rs.map Rk.k) r t).2 ≠ 0 by omega)], M.bel⟩
 ·
  have hb7' := bne_eq_false_iff_eq.1 hb7
  refine sdc A ja hb7 λa A↦?_
  refine sda A λa A↦?_
  refine qa (hK6 _ _ (wp_cond_false (A.ev rfl) ?_))
  refine wsk fun K9 hK9 => wrl (sdm A λa A↦?_)
  refine sdo (v := .bool (!((isS (ts.map Ty.k) (rs.map Rk.k) r t).1))) A (zm rfl jb) λa A↦?_
  refine sda A λa A↦?_
  refine qa (hK9 _ _ ?_)
  refine wp_cond_split (t := !((isS (ts.map Ty.k) (rs.map Rk.k) r t).1)) (A.ev rfl) (fun hc10 => ?_) (fun hc10 => ?_)
  ·
   refine wsk fun K11 hK11 => wrl ?_
   iterate 2 refine sda A λa A↦?_
   refine qa (hK11 _ _ (wp_ret (hret _ _ (en2 A rfl (qg rfl) (qg rfl) ?_))))
   exact ⟨by rw [qjd (i := i) (show (isS (ts.map Ty.k) (rs.map Rk.k) r t).2 = 0 by omega) (by simpa using hc10)], M.bel⟩
  ·
   refine wsk fun K12 hK12 => ?_
   have hz9 := qjc (show (isS (ts.map Ty.k) (rs.map Rk.k) r t).2 = 0 by omega)
   rw [List.length_map, List.length_map] at hz9
   have hr9 := ka hz9.1
   have ht9 := ka hz9.2
   obtain ⟨ty13, bt14, ot15, it16, mt17, rt18, lt19, Ht20⟩ := S.T.at_ (i := t.toNat) (by omega)
   have hnf := hW.nf16 (jc it16)
   have hpl := hW.par_lt (jc it16)
   rw [show ty13.k.fs.length = ty13.fs.length from rfl, show ty13.k.par = ty13.par from rfl] at hnf
   rw [show ty13.k.par = ty13.par from rfl] at hpl
   refine wrl (sdm A λa A↦?_)
   rcases tf (decide (i < 0)) with hb21 | hb21
   ·
    have hb21' := of_decide_eq_true hb21
    refine sdc A qy hb21 λa A↦?_
    refine sdm A λa A↦?_
    iterate 11 refine ql A rfl rfl rfl λa A↦?_
    refine sdk (v := .bool true) A λa A↦?_
    refine sda A λa A↦?_
    refine qa (hK12 _ _ (wp_cond_true (A.ev rfl) ?_))
    refine wsk fun K22 hK22 => wrl ?_
    iterate 2 refine sda A λa A↦?_
    refine qa (hK22 _ _ (wp_ret (hret _ _ (en2 A rfl (qg rfl) (qg rfl) ?_))))
    exact ⟨by rw [qha (show (isS (ts.map Ty.k) (rs.map Rk.k) r t).2 = 0 by omega) (by simpa using hc10) (jc it16) (show i < 0 ∨ ((ty13.fs.length : Nat) : Int) ≤ i by omega)], M.bel⟩
   ·
    have hb21' := of_decide_eq_false hb21
    refine sdc A qy hb21 λa A↦?_
    iterate 3 refine sdm A λa A↦?_
    refine sdo A (qs rfl) λa A↦?_
    refine sdo (v := .pointer (some ⟨b, 0, none⟩)) A (qb RcC_fld_73_0 rfl rfl) λa A↦?_
    refine sdo A (E.m_loadX M S.c0 RcC_is1_26 rfl) λa A↦?_
    refine sdm A λa A↦?_
    refine sdo (v := .pointer (some ⟨bt14, ot15 + t.toNat * 7, none⟩)) A (zg (k := t.toNat) Tryz.underlying26 (by kernel_rfl) rfl rfl (by first | rfl | omega) lt19 (by omega)) λa A↦?_
    refine sdo (v := .pointer (some ⟨bt14, ot15 + t.toNat * 7 + 2, none⟩)) A (qb RcC_fld_33_2 rfl rfl) λa A↦?_
    refine sdo A (jo (j := 2) M Ht20 RcC_is1_30 rfl rfl rfl) λa A↦?_
    refine sdo A (qr Tryz.underlying30 rfl) λa A↦?_
    rcases tf (decide (((ty13.fs.length : Nat) : Int) ≤ i)) with hb23 | hb23
    ·
     have hb23' := of_decide_eq_true hb23
     refine sdc A zr hb23 λa A↦?_
     refine sdk (v := .bool true) A λa A↦?_
     refine sda A λa A↦?_
     refine qa (hK12 _ _ (wp_cond_true (A.ev rfl) ?_))
     refine wsk fun K24 hK24 => wrl ?_
     iterate 2 refine sda A λa A↦?_
     refine qa (hK24 _ _ (wp_ret (hret _ _ (en2 A rfl (qg rfl) (qg rfl) ?_))))
     exact ⟨by rw [qha (show (isS (ts.map Ty.k) (rs.map Rk.k) r t).2 = 0 by omega) (by simpa using hc10) (jc it16) (show i < 0 ∨ ((ty13.fs.length : Nat) : Int) ≤ i by omega)], M.bel⟩
    ·
     have hb23' := of_decide_eq_false hb23
     refine sdc A zr hb23 λa A↦?_
     refine sdk (v := .bool false) A λa A↦?_
     refine sda A λa A↦?_
     refine qa (hK12 _ _ (wp_cond_false (A.ev rfl) ?_))
     refine wp_skip (hK5 _ _ (wsk fun K25 hK25 => wrl ?_))
     iterate 2 refine sdm A λa A↦?_
     refine sdo A (qs rfl) λa A↦?_
     refine sdo (v := .pointer (some ⟨b, 0, none⟩)) A (qb RcC_fld_73_0 rfl rfl) λa A↦?_
     refine sdo A (E.m_loadX M S.c0 RcC_is1_26 rfl) λa A↦?_
     refine sdm A λa A↦?_
     refine sdo (v := .pointer (some ⟨bt14, ot15 + t.toNat * 7, none⟩)) A (zg (k := t.toNat) Tryz.underlying26 (by kernel_rfl) rfl rfl (by first | rfl | omega) lt19 (by omega)) λa A↦?_
     refine sdo (v := .pointer (some ⟨bt14, ot15 + t.toNat * 7 + 1, none⟩)) A (qb RcC_fld_33_1 rfl rfl) λa A↦?_
     refine sdo A (jo (j := 1) M Ht20 RcC_is1_3 rfl rfl rfl) λa A↦?_
     refine gcl A M (ef rfl rfl) (xl (S.below M.bel) hW (by omega) (by omega)) fun w27 hb26 M a A => ?_
     refine sdm A λa A↦?_
     refine sdo (v := .int .i64 (((cnt (ts.map Ty.k) ty13.par : Nat) : Int) + i)) A (qf rfl rfl (jk (jq (by omega) (by omega)))) λa A↦?_
     iterate 2 refine sda A λa A↦?_
     refine qa (hK25 _ _ (wp_ret (hret _ _ (en2 A rfl (qg rfl) (qg rfl) ?_))))
     exact ⟨by rw [qmb (show (isS (ts.map Ty.k) (rs.map Rk.k) r t).2 = 0 by omega) (by simpa using hc10) (jc it16) (show 0 ≤ i by omega) (show i < ((ty13.fs.length : Nat) : Int) by omega)]; rfl, M.bel⟩
theorem qmc {w : World} {b tc rc : Nat} {tz ro : Option Addr} {ts : List Ty} {rs : List Rk} (S : SR w b tz tc ts ro rc rs) (hW : WS (ts.map Ty.k) (rs.map Rk.k)) {r : Int} : Calls Tryz.prog 20 #[.pointer (some ⟨b, 0, none⟩), .int .i64 r] w fun e w' => e = .returned (.tuple #[.int .i64 (uw (ts.map Ty.k) (rs.map Rk.k) r).1, .int .i64 (uw (ts.map Ty.k) (rs.map Rk.k) r).2]) ∧ Below w.heap.size w w' := by
 have hkl := hW.kl
 have hrl := hW.rl
 rw [List.length_map] at hkl hrl
 have M : Mg w w ([]) := Mg.start w
 refine qp (l := [(0, .pointer (some ⟨b, 0, none⟩)), (1, .int .i64 r)]) Tryz.func20 rfl Tryz.ntmps20 rfl rfl ?_
 intro Q hret hnorm hP a A
 refine wsk fun K1 hK1 => wrl ?_
 iterate 2 refine sda A λa A↦?_
 refine qa (hK1 _ _ (wsk fun K2 hK2 => wsk fun K3 hK3 => wrl ?_))
 iterate 2 refine sdm A λa A↦?_
 rcases tf (okT rs.length r) with hb4 | hb4
 ·
  have hx6 := ka hb4
  refine gcl A M (ef rfl rfl) (kq (S.below M.bel) hW hb4) fun w7 hb5 M a A => ?_
  refine sda A λa A↦?_
  refine qa (hK3 _ _ (wsk fun K8 hK8 => wrl (sdm A λa A↦?_)))
  refine sdo (v := .bool false) A (qf rfl rfl (fun w => by kernel_rfl)) λa A↦?_
  refine qa (hK8 _ _ (wp_cond_false (A.ev rfl) ?_))
  refine wp_skip (hK2 _ _ (wsk fun K9 hK9 => ?_))
  obtain ⟨rk10, br11, or12, ir13, mr14, rr15, lr16, Hr17⟩ := S.R.at_ (i := r.toNat) (by omega)
  have hrk18 := hW.rk _ (List.mem_of_getElem? (xf ir13))
  rw [List.length_map, show rk10.k.1 = rk10.kd from rfl, show rk10.k.2.length = rk10.vs.length from List.length_map _] at hrk18
  refine wrl (sdm A λa A↦?_)
  refine sdo A (qs rfl) λa A↦?_
  refine sdo (v := .pointer (some ⟨b, 1, none⟩)) A (qb RcC_fld_73_1 rfl rfl) λa A↦?_
  refine sdo A (E.m_loadX M S.c1 RcC_is1_71 rfl) λa A↦?_
  refine sdm A λa A↦?_
  refine sdo (v := .pointer (some ⟨br11, or12 + r.toNat * 2, none⟩)) A (zg (k := r.toNat) Tryz.underlying71 (by kernel_rfl) rfl rfl (by first | rfl | omega) lr16 (by omega)) λa A↦?_
  refine sdo (v := .pointer (some ⟨br11, or12 + r.toNat * 2, none⟩)) A (qb RcC_fld_86_0 rfl rfl) λa A↦?_
  refine sdo A (jo (j := 0) M Hr17 RcC_is1_3 rfl rfl rfl) λa A↦?_
  refine sda A λa A↦?_
  refine qa (hK9 _ _ (wsk fun K19 hK19 => wsk fun K20 hK20 => wrl ?_))
  iterate 2 refine sdm A λa A↦?_
  rcases tf (opq (ts.map Ty.k) (((rk10.kd : Nat) : Int))) with hb21 | hb21
  ·
   refine gcl A M (ef rfl rfl) ((hb21 ▸ yn (S.below M.bel) hW (by omega) (by omega))) fun w23 hb22 M a A => ?_
   refine qa (hK20 _ _ (wp_cond_true (A.ev rfl) ?_))
   refine wsk fun K24 hK24 => wrl ?_
   iterate 2 refine sda A λa A↦?_
   refine qa (hK24 _ _ (wp_ret (hret _ _ (en2 A rfl (qg rfl) (qg rfl) ?_))))
   exact ⟨by rw [tofS_opq hb4 ir13 hb21], M.bel⟩
  ·
   refine gcl A M (ef rfl rfl) ((hb21 ▸ yn (S.below M.bel) hW (by omega) (by omega))) fun w26 hb25 M a A => ?_
   refine qa (hK20 _ _ (wp_cond_false (A.ev rfl) ?_))
   refine wp_skip (hK19 _ _ (wsk fun K27 hK27 => wrl (sdm A λa A↦?_)))
   iterate 2 refine sda A λa A↦?_
   refine qa (hK27 _ _ (wp_ret (hret _ _ (en2 A rfl (qg rfl) (qg rfl) ?_))))
   exact ⟨by rw [tofS_ok hb4 ir13 hb21], M.bel⟩
 ·
  have hx29 := qig hb4
  refine gcl A M (ef rfl rfl) (kr (S.below M.bel) hW hb4) fun w30 hb28 M a A => ?_
  refine sda A λa A↦?_
  refine qa (hK3 _ _ (wsk fun K31 hK31 => wrl (sdm A λa A↦?_)))
  refine sdo (v := .bool true) A (qf rfl rfl (fun w => by kernel_rfl)) λa A↦?_
  refine qa (hK31 _ _ (wp_cond_true (A.ev rfl) ?_))
  refine wsk fun K32 hK32 => wrl (sdm A λa A↦?_)
  iterate 2 refine sda A λa A↦?_
  refine qa (hK32 _ _ (wp_ret (hret _ _ (en2 A rfl (qg rfl) (qg rfl) ?_))))
  exact ⟨by rw [tofS_no hb4], M.bel⟩
theorem get_any {w : World} {b tc rc : Nat} {tz ro : Option Addr} {ts : List Ty} {rs : List Rk} (S : SR w b tz tc ts ro rc rs) (hW : WS (ts.map Ty.k) (rs.map Rk.k)) {r t i : Int} : Calls Tryz.prog 13 #[.pointer (some ⟨b, 0, none⟩), .int .i64 r, .int .i64 t, .int .i64 i] w fun e w' => ∃ d2 : Dt, e = .returned (.tuple #[.agg (d2.d.cells d2.ts.length).toArray, .int .i64 (plS (ts.map Ty.k) (rs.map Rk.k) r t i).2]) ∧ (d2.rd w' ∧ d2.tr = gtT (ts.map Ty.k) (rs.map Rk.k) r t i ∧ d2.at_ (w.heap.size ≤ ·)) ∧ Below w.heap.size w w' := by
 have hkl := hW.kl
 have hrl := hW.rl
 rw [List.length_map] at hkl hrl
 have M : Mg w w ([]) := Mg.start w
 refine qp (l := [(0, .pointer (some ⟨b, 0, none⟩)), (1, .int .i64 r), (2, .int .i64 t), (3, .int .i64 i)]) Tryz.func13 rfl Tryz.ntmps13 rfl rfl ?_
 intro Q hret hnorm hP a A
 refine wsk fun K1 hK1 => wrl (zw (vs := (jg.d.cells jg.ts.length)) (t := 42) A M rfl rfl rfl pg (zi (z := .agg (jg.d.cells jg.ts.length).toArray) (by kernel_rfl) rfl) (by decide) ?_)
 intro g2 w3 M a A
 refine sda A λa A↦?_
 refine qa (hK1 _ _ (wsk fun K4 hK4 => wrl ?_))
 iterate 4 refine sdm A λa A↦?_
 refine gcl A M (ef rfl rfl) (un (S.below M.bel) hW) fun w6 hb5 M a A => ?_
 refine sdm A λa A↦?_
 iterate 2 refine sdo A (ze (vs := [.int .i64 ((plS (ts.map Ty.k) (rs.map Rk.k) r t i).1), .int .i64 ((plS (ts.map Ty.k) (rs.map Rk.k) r t i).2)]) rfl rfl) λa A↦?_
 iterate 2 refine sda A λa A↦?_
 refine qa (hK4 _ _ (wsk fun K7 hK7 => wsk fun K8 hK8 => wrl (sdm A λa A↦?_)))
 rcases tf (((plS (ts.map Ty.k) (rs.map Rk.k) r t i).2 != 0)) with hb9 | hb9
 ·
  have hb9' := bne_iff_ne.1 hb9
  refine sdc A ja hb9 λa A↦?_
  refine qa (hK8 _ _ (wp_cond_true (A.ev rfl) ?_))
  refine wsk fun K10 hK10 => wrl (sdo (v := .agg (jg.d.cells jg.ts.length).toArray) A (zj rfl (fun w => by kernel_rfl)) λa A↦?_)
  refine sdm A λa A↦?_
  refine zh (us := (jg.d.cells jg.ts.length)) (L' := (.obj g2 (.cells (jg.d.cells jg.ts.length).toArray 42) :: [])) A M rfl rfl (qz rfl rfl rfl (by kernel_rfl) M 0 rfl rfl rfl) 0 rfl rfl rfl ?_
  intro w11 M
  refine sda A λa A↦?_
  refine qa (hK10 _ _ (wp_ret (hret _ _ (en2 A rfl (jy M RcC_isS_42 rfl 0 rfl (cs := [.int .i64 0, .int .i64 0, .bool false, .slice none 0 0, .slice none 0 0, .bool false, .slice none 0 0, .slice none 0 0, .string (⟨#[]⟩), .slice none 0 0, .slice none 0 0]) rfl rfl) (qg rfl) ?_))))
  exact ⟨jg, rfl, ⟨zeroD_rd _, (gtT_no (show (plS (ts.map Ty.k) (rs.map Rk.k) r t i).2 ≠ 0 by omega)).symm, zeroD_at _⟩, M.bel⟩
 ·
  have hb9' := bne_eq_false_iff_eq.1 hb9
  refine sdc A ja hb9 λa A↦?_
  refine qa (hK8 _ _ (wp_cond_false (A.ev rfl) ?_))
  refine wp_skip (hK7 _ _ (wsk fun K12 hK12 => ?_))
  obtain ⟨x9, k9, hx9, hk9, p1, p2, p3, p4, p5, p6, p7, p8, p9, p10⟩ := pl_in hW (show (plS (ts.map Ty.k) (rs.map Rk.k) r t i).2 = 0 by omega)
  rw [List.length_map] at p2 p4
  obtain ⟨rk13, br14, or15, ir16, mr17, rr18, lr19, Hr20⟩ := S.R.at_ (i := r.toNat) (by omega)
  obtain rfl : x9 = rk13.k := Option.some.inj (hx9.symm.trans (xf ir16))
  rw [show rk13.k.2.length = rk13.vs.length from List.length_map _] at p9 p10
  refine wrl (sdm A λa A↦?_)
  refine sdo A (qs rfl) λa A↦?_
  refine sdo (v := .pointer (some ⟨b, 1, none⟩)) A (qb RcC_fld_73_1 rfl rfl) λa A↦?_
  refine sdo A (E.m_loadX M S.c1 RcC_is1_71 rfl) λa A↦?_
  refine sdm A λa A↦?_
  refine sdo (v := .pointer (some ⟨br14, or15 + r.toNat * 2, none⟩)) A (zg (k := r.toNat) Tryz.underlying71 (by kernel_rfl) rfl rfl (by first | rfl | omega) lr19 (by omega)) λa A↦?_
  refine sdo (v := .pointer (some ⟨br14, or15 + r.toNat * 2 + 1, none⟩)) A (qb RcC_fld_86_1 rfl rfl) λa A↦?_
  refine sdo A (jo (j := 1) M Hr20 RcC_is1_34 rfl rfl rfl) λa A↦?_
  refine sdm A λa A↦?_
  obtain ⟨tk21, btk21, otk21, itk21, mtk21, rtk21_, ltk21, Htk21⟩ := kidL rr18.v rr18.d (i := ((plS (ts.map Ty.k) (rs.map Rk.k) r t i).1).toNat) (by omega)
  refine sdo (v := .pointer (some ⟨btk21, otk21 + ((plS (ts.map Ty.k) (rs.map Rk.k) r t i).1).toNat * 11, none⟩)) A (zg (k := ((plS (ts.map Ty.k) (rs.map Rk.k) r t i).1).toNat) Tryz.underlying34 (by kernel_rfl) rfl rfl (by first | rfl | omega) ltk21 (by omega)) λa A↦?_
  refine sdo A (vy M Htk21 RcC_isS_42 rfl rfl) λa A↦?_
  have hlt9 := (Ck.lt (M.has 0 rfl) g2 rfl).2
  have hz9 := M.bel.size
  refine sct A (ef rfl rfl) (vp tk21 (Dt.keep M.bel _ rtk21_) (hW.bk _ (List.mem_of_getElem? (xf ir16)) _ (List.mem_map.2 ⟨_, mtk21, rfl⟩))) ?_
  rintro _ w22 ⟨d2, rfl, ⟨hd2, ha2, ht2⟩, hbd⟩
  replace M := M.call hbd
  refine ⟨_, rfl, ?_⟩
  intro a A
  refine qhj (us := (d2.d.cells d2.ts.length)) (L' := (.obj g2 (.cells (d2.d.cells d2.ts.length).toArray 42) :: [])) A M rfl rfl (qz rfl rfl rfl (by kernel_rfl) M 0 rfl rfl rfl) 0 rfl rfl rfl ?_
  intro w23 M hK24
  replace hd2 := Dt.kept hK24 _ hd2 (Dt.at_mono (fun b9 hb9 => by rintro rfl; omega) _ ha2)
  refine sda A λa A↦?_
  refine qa (hK12 _ _ (wp_ret (hret _ _ (en2 A rfl (jy M RcC_isS_42 rfl 0 rfl (cs := [.int .i64 d2.d.k, .int .i64 d2.d.n, .bool d2.d.y.q.b1, .slice d2.d.y.o1 d2.d.y.q.t1.length d2.d.y.c1, .slice d2.d.y.o2 d2.d.y.q.q1.length d2.d.y.c2, .bool d2.d.y.q.b2, .slice d2.d.y.o3 d2.d.y.q.t2.length d2.d.y.c3, .slice d2.d.y.o4 d2.d.y.q.q2.length d2.d.y.c4, .string d2.d.s, .slice d2.d.ro d2.d.rl.length d2.d.rc, .slice d2.d.lo d2.ts.length d2.d.lc]) rfl rfl) (qg rfl) ?_))))
  exact ⟨d2, by first | (rw [show (plS (ts.map Ty.k) (rs.map Rk.k) r t i).2 = 0 by omega]; done) | (rw [show (plS (ts.map Ty.k) (rs.map Rk.k) r t i).2 = 0 by omega]; rfl), ⟨hd2, by rw [ht2, gtT_ok (show (plS (ts.map Ty.k) (rs.map Rk.k) r t i).2 = 0 by omega) hx9 (show (List.map Dt.tr _)[_]? = some tk21.tr by rw [List.getElem?_map, itk21]; rfl)], Dt.at_mono (fun b9 hb9 => Nat.le_trans hz9 hb9) _ ha2⟩, M.bel⟩
open Classical in
/-- What was made, but these pieces. -/
noncomputable def others (w0 w : World) (L : List Ck) : List Ck := (froz w w0.heap.size (w.heap.size - w0.heap.size)).filter fun c => decide (∀ d ∈ L, ∀ b, c.at_ = some b → d.at_ ≠ some b)
theorem vq {w0 w : World} {L : List Ck} : zv (others w0 w L) := fun c hc => qid c (List.mem_filter.1 hc).1
theorem Mg.fill {w0 w : World} {L : List Ck} (hM : Mg w0 w L) (hnb : zv L) : Mg w0 w (others w0 w L ++ L) := by
  refine ⟨hM.bel, fun c hc => ?_, List.pairwise_append.2 ⟨(kh _ _).filter _, hM.dis, fun c hc d hd => ?_⟩⟩
  · rcases List.mem_append.1 hc with h | h
    · obtain ⟨b, o, rfl, h3, h4⟩ := xr (List.mem_filter.1 h).1
      exact ⟨h3, h4⟩
    · exact hM.all c h
  · have h5 := of_decide_eq_true (List.mem_filter.1 hc).2
    obtain ⟨b, o, rfl, h3, h4⟩ := xr (List.mem_filter.1 hc).1
    have h6 := h5 d hd b rfl
    cases d with
    | obj g' o' => exact fun e => h6 (by rw [e]; rfl)
    | row e' sz' v' n' xs' => exact h6
    | bld b' bs' => exact absurd rfl (hnb _ hd b' bs')
theorem yt {w w' : World} {L : List Ck} {t : Dt} (ht : t.rd w') (ha : t.at_ fun b => w.heap.size ≤ b ∧ ∀ d ∈ L, d.at_ ≠ some b) : Lives (others w w' L) t := fun w1 w2 h9 => by
  refine Dt.seen (p := fun b => w.heap.size ≤ b ∧ ∀ d ∈ L, d.at_ ≠ some b) (fun b i v hb hc => ?_) t ht ha
  have hlt := cell_lt hc
  have h2 : w'.heap[b]? = some (w'.heap[b]'hlt) := Array.getElem?_eq_getElem hlt
  have h3 : Ck.obj b (w'.heap[b]'hlt) ∈ others w w' L := List.mem_filter.2 ⟨qbf hb.1 (by have := hb.1; simp only at *; omega) h2, decide_eq_true fun d hd b' e => by cases e; exact hb.2 d hd⟩
  have h4 := (h9.all _ h3).2
  unfold World.cell? at hc ⊢
  simp only at hc ⊢
  rw [h4, ← h2]; exact hc
/-- A row of data that a call has made, and what they stand by. -/
theorem Mg.data {w0 w w' : World} {L : List Ck} {c : Ck} (hM : Mg w0 w L) (n : Nat) (hnb : zv L) (h : Mg w w' [c]) (hc : zv [c]) : Mg w0 w' (c :: (L.take n ++ (others w w' [c] ++ L.drop n))) := by
  have h1 := hM.both (h.fill hc) hnb (jd vq hc)
  refine h1.perm ?_
  rw [List.append_assoc]
  refine List.perm_append_comm.trans ?_
  show (c :: (L ++ others w w' [c])).Perm _
  refine List.Perm.cons _ ?_
  have e : L ++ others w w' [c] = L.take n ++ (L.drop n ++ others w w' [c]) := by rw [← List.append_assoc, List.take_append_drop]
  rw [e]
  exact List.Perm.append_left _ List.perm_append_comm
section
variable {P : Program} {w0 w : World} {L : List Ck} {l : List (Nat × Value)} {dst : Option Tmp} {ty : TypeId} {pos : String} {after : Array Edge} {guard : Option (Nat × Bool)} {v : Value}
/-- A cell of a struct in a row of one's own. -/
theorem qci {α : Type} {f : α → List Value} {m : Nat} (hf : ∀ x, (f x).length = m) (hm : 0 < m) (hM : Mg w0 w L) (k : Nat) {e : TypeId} {n ca b o i j o' : Nat} {so : Option Addr} {xs : List α} {x : α} (hk : L[k]? = some (.row e m (.slice so n ca) n (qn f xs))) (hi : xs[i]? = some x) (hso : so = some ⟨b, o, none⟩) (hj : (f x)[j]? = some v) {t : TypeId} (ht : Is1 P t) {y : Operand} (hy : ev l y = some (.pointer (some ⟨b, o', none⟩))) (ho : o' = o + i * m + j) : Does P l ⟨dst, .load t y, ty, pos, after, guard⟩ w v w := by
  obtain ⟨b', o'', e1, h1⟩ := ug hf hm (rc_own (hM.has k hk)) hi
  rw [hso] at e1
  cases e1
  subst ho
  exact jj hy (jr ht (h1.2 j v hj))
end
theorem RcD_is1_26 : Is1 Tryz.prog 26 := ⟨⟨_, Tryz.underlying26, rfl⟩, by kernel_rfl⟩
theorem RcD_is1_3 : Is1 Tryz.prog 3 := ⟨⟨_, Tryz.underlying3, rfl⟩, by kernel_rfl⟩
theorem RcD_is1_30 : Is1 Tryz.prog 30 := ⟨⟨_, Tryz.underlying30, rfl⟩, by kernel_rfl⟩
theorem RcD_is1_31 : Is1 Tryz.prog 31 := ⟨⟨_, Tryz.underlying31, rfl⟩, by kernel_rfl⟩
theorem RcD_is1_34 : Is1 Tryz.prog 34 := ⟨⟨_, Tryz.underlying34, rfl⟩, by kernel_rfl⟩
theorem RcD_is1_4 : Is1 Tryz.prog 4 := ⟨⟨_, Tryz.underlying4, rfl⟩, by kernel_rfl⟩
theorem RcD_is1_71 : Is1 Tryz.prog 71 := ⟨⟨_, Tryz.underlying71, rfl⟩, by kernel_rfl⟩
theorem RcD_is1_9 : Is1 Tryz.prog 9 := ⟨⟨_, Tryz.underlying9, rfl⟩, by kernel_rfl⟩
theorem RcD_fld_33_1 : FieldAt Tryz.prog 33 1 1 := ⟨_, _, Tryz.underlying33, rfl, rfl, by kernel_rfl⟩
theorem RcD_fld_33_2 : FieldAt Tryz.prog 33 2 2 := ⟨_, _, Tryz.underlying33, rfl, rfl, by kernel_rfl⟩
theorem RcD_fld_33_3 : FieldAt Tryz.prog 33 3 3 := ⟨_, _, Tryz.underlying33, rfl, rfl, by kernel_rfl⟩
theorem RcD_fld_33_4 : FieldAt Tryz.prog 33 4 4 := ⟨_, _, Tryz.underlying33, rfl, rfl, by kernel_rfl⟩
theorem RcD_fld_33_6 : FieldAt Tryz.prog 33 6 6 := ⟨_, _, Tryz.underlying33, rfl, rfl, by kernel_rfl⟩
theorem RcD_fld_73_0 : FieldAt Tryz.prog 73 0 0 := ⟨_, _, Tryz.underlying73, rfl, rfl, by kernel_rfl⟩
theorem RcD_fld_73_1 : FieldAt Tryz.prog 73 1 1 := ⟨_, _, Tryz.underlying73, rfl, rfl, by kernel_rfl⟩
theorem RcD_fld_86_1 : FieldAt Tryz.prog 86 1 1 := ⟨_, _, Tryz.underlying86, rfl, rfl, by kernel_rfl⟩
theorem RcD_isS_33 : IsS Tryz.prog 33 7 := ⟨⟨_, Tryz.underlying33⟩, by kernel_rfl⟩
theorem RcD_isS_42 : IsS Tryz.prog 42 11 := ⟨⟨_, Tryz.underlying42⟩, by kernel_rfl⟩
set_option maxHeartbeats 2000000 in
theorem type_new {w0 w : World} {b tc rc : Nat} {tz ro : Option Addr} {ts : List Ty} {rs : List Rk} {Y : List Ck} (hY : zv Y) (hW : WS (ts.map Ty.k) (rs.map Rk.k)) (hsr : ∀ w1, Mg w0 w1 (.obj b (.cells (sC tz tc ts ro rc rs).toArray 73) :: .row 33 7 (.slice tz ts.length tc) ts.length (qn Ty.c ts) :: .row 86 2 (.slice ro rs.length rc) rs.length (qn Rk.c rs) :: Y) → SR w1 b tz tc ts ro rc rs) (hM0 : Mg w0 w (.obj b (.cells (sC tz tc ts ro rc rs).toArray 73) :: .row 33 7 (.slice tz ts.length tc) ts.length (qn Ty.c ts) :: .row 86 2 (.slice ro rs.length rc) rs.length (qn Rk.c rs) :: Y)) {u : Ty} (hU : ∀ w1, Mg w0 w1 Y → TyR w1 u) (hul : u.fs.length ≤ 2000000) (hum : u.ms.length ≤ 2000000) (hz1 : u.nm.size ≤ 281474976710656) (hz2 : u.ui.size ≤ 281474976710656) (huz : ∀ s ∈ u.fs, s.size ≤ 281474976710656) (hg : gdB ts.length u.k = true) (h0 : ¬ 0 ≤ uix (ts.map Ty.k) u.ui) (hsl : slP (ts.map Ty.k) u.par = false) (hc : cnt (ts.map Ty.k) u.par + u.fs.length ≤ 16) (hn : ts.length < 4096) : Calls Tryz.prog 8 #[.pointer (some ⟨b, 0, none⟩), .agg u.c.toArray] w fun e w' => ∃ (t2 : Ty) (tz' : Option Addr) (tc' : Nat), e = .returned (.tuple #[.int .i64 ((ts.length : Nat) : Int), .int .i64 0]) ∧ t2.k = u.k ∧ Mg w0 w' (.obj b (.cells #[.slice tz' ((ts ++ [t2]).length) tc', .slice ro rs.length rc] 73) :: .row 33 7 (.slice tz' ((ts ++ [t2]).length) tc') ((ts ++ [t2]).length) (qn Ty.c (ts ++ [t2])) :: .row 86 2 (.slice ro rs.length rc) rs.length (qn Rk.c rs) :: .row 9 1 (.slice t2.fo t2.fs.length t2.fc) t2.fs.length (E.strC t2.fs) :: .row 4 1 (.slice t2.mo t2.ms.length t2.mc) t2.ms.length (E.boolC t2.ms) :: Y) := by
 have hkl := hW.kl
 have hrl := hW.rl
 rw [List.length_map] at hkl hrl
 obtain ⟨hg1, hg2, hg3, hg4⟩ := gd_t hg
 rw [show u.k.par = u.par from rfl] at hg3 hg4
 have M : Mg w0 w (.obj b (.cells (sC tz tc ts ro rc rs).toArray 73) :: .row 33 7 (.slice tz ts.length tc) ts.length (qn Ty.c ts) :: .row 86 2 (.slice ro rs.length rc) rs.length (qn Rk.c rs) :: Y) := hM0
 refine qp (l := [(0, .pointer (some ⟨b, 0, none⟩)), (1, .agg u.c.toArray)]) Tryz.func8 rfl Tryz.ntmps8 rfl rfl ?_
 intro Q hret hnorm hP a A
 refine wsk fun K1 hK1 => wrl (zw (vs := u.c) (t := 33) A M rfl rfl rfl pg (zk rfl rfl) (by decide) ?_)
 intro g2 w3 M a A
 iterate 2 refine sda A λa A↦?_
 refine qa (hK1 _ _ (wsk fun K4 hK4 => wsk fun K5 hK5 => wrl (sdm A λa A↦?_)))
 refine sdo (v := .bool false) A (qf rfl rfl (fun w => by kernel_rfl)) λa A↦?_
 iterate 2 refine sdm A λa A↦?_
 refine sdo A (je M RcD_isS_33 rfl 0 rfl (cs := u.c) rfl rfl) λa A↦?_
 refine gcl A M (ef rfl rfl) (um (hsr _ ((M.dropn 1))) hW (hU _ (M.dropn 4)) hul huz hg) fun w7 hb6 M a A => ?_
 refine sdo (v := .bool false) A (zm rfl jb) λa A↦?_
 refine sdk (v := .bool false) A λa A↦?_
 refine qa (hK5 _ _ (wp_cond_false (A.ev rfl) ?_))
 refine wp_skip (hK4 _ _ (wsk fun K8 hK8 => wsk fun K9 hK9 => wrl (sdm A λa A↦?_)))
 refine sdo (v := .pointer (some ⟨g2, 6, none⟩)) A (qb RcD_fld_33_6 rfl rfl) λa A↦?_
 refine sdo A (qj M RcD_is1_9 rfl 0 rfl rfl) λa A↦?_
 refine gcl A M (ef rfl rfl) (ut (hsr _ ((M.dropn 1))) hW) fun w11 hb10 M a A => ?_
 refine sda A λa A↦?_
 refine qa (hK9 _ _ (wsk fun K12 hK12 => wrl (sdm A λa A↦?_)))
 refine sdo (v := .bool false) A (qf rfl rfl (fun w => (zr w).trans (by rw [show (decide (0 ≤ uix (ts.map Ty.k) u.ui)) = false from (decide_eq_false h0)]))) λa A↦?_
 refine qa (hK12 _ _ (wp_cond_false (A.ev rfl) ?_))
 refine wp_skip (hK8 _ _ (wsk fun K13 hK13 => ?_))
 have hJ14 : ∀ a w1, (Sl a 77 [(0, .pointer (some ⟨b, 0, none⟩)), (1, .agg u.c.toArray), (3, .pointer (some ⟨g2, 0, none⟩)), (6, .int .i64 (uix (ts.map Ty.k) u.ui)), (7, .pointer (some ⟨b, 0, none⟩)), (8, .bool false), (9, .bool false), (10, .pointer (some ⟨b, 0, none⟩)), (11, .agg u.c.toArray), (12, .bool true), (13, .bool false), (14, .bool false), (15, .pointer (some ⟨b, 0, none⟩)), (16, .pointer (some ⟨g2, 6, none⟩)), (17, .string u.ui), (18, .int .i64 (uix (ts.map Ty.k) u.ui)), (19, .int .i64 (uix (ts.map Ty.k) u.ui)), (20, .bool false)] ∧ Mg w0 w1 (.obj g2 (.cells u.c.toArray 33) :: .obj b (.cells (sC tz tc ts ro rc rs).toArray 73) :: .row 33 7 (.slice tz ts.length tc) ts.length (qn Ty.c ts) :: .row 86 2 (.slice ro rs.length rc) rs.length (qn Rk.c rs) :: Y)) → K13 a w1 := by
  clear A M
  rintro a w15 ⟨A, M⟩
  refine hK13 _ _ (wsk fun K17 hK17 => jn (S := fun w1 => Mg w0 w1 (.obj g2 (.cells u.c.toArray 33) :: [])) (by kernel_rfl) ?_)
  replace M := M.drew
  refine qe A 0 rfl rfl rfl rfl hP (M.sub (cc (cn (cn (cn (List.nil_sublist _)))))) (fun w1 M => qt rfl) λa A↦?_
  refine qe A 1 rfl rfl rfl rfl hP (M.sub (cc (cn (cn (cn (List.nil_sublist _)))))) (fun w1 M => qt rfl) λa A↦?_
  refine qe A 2 rfl rfl rfl rfl hP (M.sub (cc (cn (cn (cn (List.nil_sublist _)))))) (fun w1 M => qs rfl) λa A↦?_
  refine qe (v := .pointer (some ⟨b, 0, none⟩)) A 3 rfl rfl rfl rfl hP (M.sub (cc (cn (cn (cn (List.nil_sublist _)))))) (fun w1 M => qb RcD_fld_73_0 rfl rfl) λa A↦?_
  refine qe A 5 rfl rfl rfl rfl hP (M.sub (cc (cn (cn (cn (List.nil_sublist _)))))) (fun w1 M => je M RcD_isS_33 rfl 0 rfl (cs := u.c) rfl rfl) λa A↦?_
  refine vu (rs := [4, 6]) (by kernel_rfl) (by simp) ⟨?_, ?_, trivial⟩
  ·
   refine ye A 4 rfl rfl rfl rfl (qj M RcD_is1_26 rfl 1 rfl rfl) (M.sub (cc (cn (cn (cn (List.nil_sublist _)))))) λa A↦?_
   refine zd (by kernel_rfl) (zy A 6 rfl rfl rfl rfl (za rfl rfl (fun w => by kernel_rfl)) (ku (hU _ (M.dropn 4)) hul hum hz1 hz2 huz) ?_)
   rintro _ w19 ⟨t2, rfl, hk2, hM18⟩
   replace M : Mg w0 w19 (.row 9 1 (.slice t2.fo t2.fs.length t2.fc) t2.fs.length (E.strC t2.fs) :: .row 4 1 (.slice t2.mo t2.ms.length t2.mc) t2.ms.length (E.boolC t2.ms) :: .obj g2 (.cells u.c.toArray 33) :: .obj b (.cells (sC tz tc ts ro rc rs).toArray 73) :: .row 33 7 (.slice tz ts.length tc) ts.length (qn Ty.c ts) :: .row 86 2 (.slice ro rs.length rc) rs.length (qn Rk.c rs) :: Y) := (M.both hM18 (qh (by simp) (qh (by simp) (qh (by simp) (qh (by simp) hY)))) (qh (by simp) (qh (by simp) (qk qm))))
   refine ⟨_, rfl, (M.sub (cn (cn (cc (cn (cn (cn (List.nil_sublist _)))))))), ?_⟩
   intro a A
   refine zd (by kernel_rfl) (qdj (e := 33) (sz := 7) (m := 1) (vs := qn Ty.c [t2]) A M 7 rfl rfl rfl rfl (qx rfl (by kernel_rfl)) rfl rfl (.inl (by decide)) ?_)
   intro g20 w21 M
   refine ⟨(M.sub (cn (cn (cn (cc (cn (cn (cn (List.nil_sublist _))))))))), ?_⟩
   intro a A
   refine zd (by kernel_rfl) (vg (e := 33) (sz := 7) (k := 5) (q := ts.length) (m := 1) (xs := qn Ty.c ts) (news := qn Ty.c [t2]) (L' := fun v22 => (.row 33 7 (.slice (some ⟨g20, 0, none⟩) 1 1) 1 (qn Ty.c [t2]) :: .row 9 1 (.slice t2.fo t2.fs.length t2.fc) t2.fs.length (E.strC t2.fs) :: .row 4 1 (.slice t2.mo t2.ms.length t2.mc) t2.ms.length (E.boolC t2.ms) :: .obj g2 (.cells u.c.toArray 33) :: .obj b (.cells (sC tz tc ts ro rc rs).toArray 73) :: .row 33 7 (v22) (ts.length + 1) (qn Ty.c ts ++ qn Ty.c [t2]) :: .row 86 2 (.slice ro rs.length rc) rs.length (qn Rk.c rs) :: Y)) A 8 rfl rfl rfl rfl (jw (z := .agg #[.string (⟨#[]⟩), .int .i64 0, .slice none 0 0, .slice none 0 0, .bool false, .bool false, .string (⟨#[]⟩)]) (sz := 7) (by_ := 96) Tryz.underlying26 (by kernel_rfl) rfl rfl rfl M 5 rfl rfl rfl rfl (rc_own (M.has 0 rfl)) (qki _) (by omega)) (fun _ => rfl) ?_)
   intro v22 w23 M
   replace M : Mg w0 w23 (.row 33 7 (.slice (some ⟨g20, 0, none⟩) 1 1) 1 (qn Ty.c [t2]) :: .row 9 1 (.slice t2.fo t2.fs.length t2.fc) t2.fs.length (E.strC t2.fs) :: .row 4 1 (.slice t2.mo t2.ms.length t2.mc) t2.ms.length (E.boolC t2.ms) :: .obj g2 (.cells u.c.toArray 33) :: .obj b (.cells (sC tz tc ts ro rc rs).toArray 73) :: .row 33 7 (v22) ((ts ++ [t2]).length) (qn Ty.c (ts ++ [t2])) :: .row 86 2 (.slice ro rs.length rc) rs.length (qn Rk.c rs) :: Y) := by
    have h9 := M
    rw [← jm] at h9
    rw [List.length_append]
    exact h9
   obtain ⟨so24, ca25, rfl⟩ := zx (M.has 5 rfl)
   have hln : (ts ++ [t2]).length = ts.length + 1 := by rw [List.length_append]; rfl
   refine ⟨(M.sub (cn (cn (cn (cc (cn (cn (cn (List.nil_sublist _))))))))), ?_⟩
   intro a A
   refine qe A 9 rfl rfl rfl rfl hP (M.sub (cn (cn (cn (cc (cn (cn (cn (List.nil_sublist _))))))))) (fun w1 M => qs rfl) λa A↦?_
   refine qe (v := .pointer (some ⟨b, 0, none⟩)) A 10 rfl rfl rfl rfl hP (M.sub (cn (cn (cn (cc (cn (cn (cn (List.nil_sublist _))))))))) (fun w1 M => qb RcD_fld_73_0 rfl rfl) λa A↦?_
   refine zd (by kernel_rfl) (vm (us := [.slice so24 ((ts ++ [t2]).length) ca25, .slice ro rs.length rc]) (L' := (.row 33 7 (.slice (some ⟨g20, 0, none⟩) 1 1) 1 (qn Ty.c [t2]) :: .row 9 1 (.slice t2.fo t2.fs.length t2.fc) t2.fs.length (E.strC t2.fs) :: .row 4 1 (.slice t2.mo t2.ms.length t2.mc) t2.ms.length (E.boolC t2.ms) :: .obj g2 (.cells u.c.toArray 33) :: .obj b (.cells #[.slice so24 ((ts ++ [t2]).length) ca25, .slice ro rs.length rc] 73) :: .row 33 7 (.slice so24 ((ts ++ [t2]).length) ca25) ((ts ++ [t2]).length) (qn Ty.c (ts ++ [t2])) :: .row 86 2 (.slice ro rs.length rc) rs.length (qn Rk.c rs) :: Y)) A M 11 rfl rfl rfl (qz rfl rfl rfl (by kernel_rfl) M 4 rfl rfl rfl) 4 rfl rfl rfl ?_)
   intro w26 M
   refine ⟨(M.sub (cn (cn (cn (cc (cn (cn (cn (List.nil_sublist _))))))))), ?_⟩
   refine zn (by kernel_rfl) ?_
   refine hK17 _ _ (wsk fun K27 hK27 => wrl (sdm A λa A↦?_))
   refine sdo A (qs rfl) λa A↦?_
   refine sdo (v := .pointer (some ⟨b, 0, none⟩)) A (qb RcD_fld_73_0 rfl rfl) λa A↦?_
   refine sdo A (qj M RcD_is1_26 rfl 4 rfl rfl) λa A↦?_
   refine sdo A (qr Tryz.underlying26 rfl) λa A↦?_
   refine sdo (v := .int .i64 ((((ts ++ [t2]).length - 1 : Nat) : Int))) A (qf rfl rfl (fun w => (vl (jq (by omega) (by omega)) w).trans (by rw [show ((((ts ++ [t2]).length : Nat) : Int) - 1 : Int) = (((ts ++ [t2]).length - 1 : Nat) : Int) from by omega]))) λa A↦?_
   iterate 2 refine sda A λa A↦?_
   refine qa (hK27 _ _ (wp_ret (hret _ _ (en2 A rfl (qg rfl) (qg rfl) ?_))))
   replace M : Mg w0 w26 (.obj b (.cells #[.slice so24 ((ts ++ [t2]).length) ca25, .slice ro rs.length rc] 73) :: .row 33 7 (.slice so24 ((ts ++ [t2]).length) ca25) ((ts ++ [t2]).length) (qn Ty.c (ts ++ [t2])) :: .row 86 2 (.slice ro rs.length rc) rs.length (qn Rk.c rs) :: .row 9 1 (.slice t2.fo t2.fs.length t2.fc) t2.fs.length (E.strC t2.fs) :: .row 4 1 (.slice t2.mo t2.ms.length t2.mc) t2.ms.length (E.boolC t2.ms) :: Y) := (((((M.bring 2 rfl rfl).bring 2 rfl rfl).bring 6 rfl rfl).bring 6 rfl rfl).bring 6 rfl rfl).sub (cc (cc (cc (cc (cc (cn (cn (.refl _))))))))
   exact ⟨t2, so24, ca25, by rw [show (ts ++ [t2]).length - 1 = ts.length by omega], hk2, M⟩
  ·
   refine zy A 6 rfl rfl rfl rfl (za rfl rfl (fun w => by kernel_rfl)) (ku (hU _ (M.dropn 4)) hul hum hz1 hz2 huz) ?_
   rintro _ w29 ⟨t2, rfl, hk2, hM28⟩
   replace M : Mg w0 w29 (.row 9 1 (.slice t2.fo t2.fs.length t2.fc) t2.fs.length (E.strC t2.fs) :: .row 4 1 (.slice t2.mo t2.ms.length t2.mc) t2.ms.length (E.boolC t2.ms) :: .obj g2 (.cells u.c.toArray 33) :: .obj b (.cells (sC tz tc ts ro rc rs).toArray 73) :: .row 33 7 (.slice tz ts.length tc) ts.length (qn Ty.c ts) :: .row 86 2 (.slice ro rs.length rc) rs.length (qn Rk.c rs) :: Y) := (M.both hM28 (qh (by simp) (qh (by simp) (qh (by simp) (qh (by simp) hY)))) (qh (by simp) (qh (by simp) (qk qm))))
   refine ⟨_, rfl, (M.sub (cn (cn (cc (cn (cn (cn (List.nil_sublist _)))))))), ?_⟩
   intro a A
   refine vu (rs := [4, 7]) (by kernel_rfl) (by simp) ⟨?_, ?_, trivial⟩
   ·
    refine ye A 4 rfl rfl rfl rfl (qj M RcD_is1_26 rfl 3 rfl rfl) (M.sub (cn (cn (cc (cn (cn (cn (List.nil_sublist _)))))))) λa A↦?_
    refine zd (by kernel_rfl) (qdj (e := 33) (sz := 7) (m := 1) (vs := qn Ty.c [t2]) A M 7 rfl rfl rfl rfl (qx rfl (by kernel_rfl)) rfl rfl (.inl (by decide)) ?_)
    intro g30 w31 M
    refine ⟨(M.sub (cn (cn (cn (cc (cn (cn (cn (List.nil_sublist _))))))))), ?_⟩
    intro a A
    refine zd (by kernel_rfl) (vg (e := 33) (sz := 7) (k := 5) (q := ts.length) (m := 1) (xs := qn Ty.c ts) (news := qn Ty.c [t2]) (L' := fun v32 => (.row 33 7 (.slice (some ⟨g30, 0, none⟩) 1 1) 1 (qn Ty.c [t2]) :: .row 9 1 (.slice t2.fo t2.fs.length t2.fc) t2.fs.length (E.strC t2.fs) :: .row 4 1 (.slice t2.mo t2.ms.length t2.mc) t2.ms.length (E.boolC t2.ms) :: .obj g2 (.cells u.c.toArray 33) :: .obj b (.cells (sC tz tc ts ro rc rs).toArray 73) :: .row 33 7 (v32) (ts.length + 1) (qn Ty.c ts ++ qn Ty.c [t2]) :: .row 86 2 (.slice ro rs.length rc) rs.length (qn Rk.c rs) :: Y)) A 8 rfl rfl rfl rfl (jw (z := .agg #[.string (⟨#[]⟩), .int .i64 0, .slice none 0 0, .slice none 0 0, .bool false, .bool false, .string (⟨#[]⟩)]) (sz := 7) (by_ := 96) Tryz.underlying26 (by kernel_rfl) rfl rfl rfl M 5 rfl rfl rfl rfl (rc_own (M.has 0 rfl)) (qki _) (by omega)) (fun _ => rfl) ?_)
    intro v32 w33 M
    replace M : Mg w0 w33 (.row 33 7 (.slice (some ⟨g30, 0, none⟩) 1 1) 1 (qn Ty.c [t2]) :: .row 9 1 (.slice t2.fo t2.fs.length t2.fc) t2.fs.length (E.strC t2.fs) :: .row 4 1 (.slice t2.mo t2.ms.length t2.mc) t2.ms.length (E.boolC t2.ms) :: .obj g2 (.cells u.c.toArray 33) :: .obj b (.cells (sC tz tc ts ro rc rs).toArray 73) :: .row 33 7 (v32) ((ts ++ [t2]).length) (qn Ty.c (ts ++ [t2])) :: .row 86 2 (.slice ro rs.length rc) rs.length (qn Rk.c rs) :: Y) := by
     have h9 := M
     rw [← jm] at h9
     rw [List.length_append]
     exact h9
    obtain ⟨so34, ca35, rfl⟩ := zx (M.has 5 rfl)
    have hln : (ts ++ [t2]).length = ts.length + 1 := by rw [List.length_append]; rfl
    refine ⟨(M.sub (cn (cn (cn (cc (cn (cn (cn (List.nil_sublist _))))))))), ?_⟩
    intro a A
    refine qe A 9 rfl rfl rfl rfl hP (M.sub (cn (cn (cn (cc (cn (cn (cn (List.nil_sublist _))))))))) (fun w1 M => qs rfl) λa A↦?_
    refine qe (v := .pointer (some ⟨b, 0, none⟩)) A 10 rfl rfl rfl rfl hP (M.sub (cn (cn (cn (cc (cn (cn (cn (List.nil_sublist _))))))))) (fun w1 M => qb RcD_fld_73_0 rfl rfl) λa A↦?_
    refine zd (by kernel_rfl) (vm (us := [.slice so34 ((ts ++ [t2]).length) ca35, .slice ro rs.length rc]) (L' := (.row 33 7 (.slice (some ⟨g30, 0, none⟩) 1 1) 1 (qn Ty.c [t2]) :: .row 9 1 (.slice t2.fo t2.fs.length t2.fc) t2.fs.length (E.strC t2.fs) :: .row 4 1 (.slice t2.mo t2.ms.length t2.mc) t2.ms.length (E.boolC t2.ms) :: .obj g2 (.cells u.c.toArray 33) :: .obj b (.cells #[.slice so34 ((ts ++ [t2]).length) ca35, .slice ro rs.length rc] 73) :: .row 33 7 (.slice so34 ((ts ++ [t2]).length) ca35) ((ts ++ [t2]).length) (qn Ty.c (ts ++ [t2])) :: .row 86 2 (.slice ro rs.length rc) rs.length (qn Rk.c rs) :: Y)) A M 11 rfl rfl rfl (qz rfl rfl rfl (by kernel_rfl) M 4 rfl rfl rfl) 4 rfl rfl rfl ?_)
    intro w36 M
    refine ⟨(M.sub (cn (cn (cn (cc (cn (cn (cn (List.nil_sublist _))))))))), ?_⟩
    refine zn (by kernel_rfl) ?_
    refine hK17 _ _ (wsk fun K37 hK37 => wrl (sdm A λa A↦?_))
    refine sdo A (qs rfl) λa A↦?_
    refine sdo (v := .pointer (some ⟨b, 0, none⟩)) A (qb RcD_fld_73_0 rfl rfl) λa A↦?_
    refine sdo A (qj M RcD_is1_26 rfl 4 rfl rfl) λa A↦?_
    refine sdo A (qr Tryz.underlying26 rfl) λa A↦?_
    refine sdo (v := .int .i64 ((((ts ++ [t2]).length - 1 : Nat) : Int))) A (qf rfl rfl (fun w => (vl (jq (by omega) (by omega)) w).trans (by rw [show ((((ts ++ [t2]).length : Nat) : Int) - 1 : Int) = (((ts ++ [t2]).length - 1 : Nat) : Int) from by omega]))) λa A↦?_
    iterate 2 refine sda A λa A↦?_
    refine qa (hK37 _ _ (wp_ret (hret _ _ (en2 A rfl (qg rfl) (qg rfl) ?_))))
    replace M : Mg w0 w36 (.obj b (.cells #[.slice so34 ((ts ++ [t2]).length) ca35, .slice ro rs.length rc] 73) :: .row 33 7 (.slice so34 ((ts ++ [t2]).length) ca35) ((ts ++ [t2]).length) (qn Ty.c (ts ++ [t2])) :: .row 86 2 (.slice ro rs.length rc) rs.length (qn Rk.c rs) :: .row 9 1 (.slice t2.fo t2.fs.length t2.fc) t2.fs.length (E.strC t2.fs) :: .row 4 1 (.slice t2.mo t2.ms.length t2.mc) t2.ms.length (E.boolC t2.ms) :: Y) := (((((M.bring 2 rfl rfl).bring 2 rfl rfl).bring 6 rfl rfl).bring 6 rfl rfl).bring 6 rfl rfl).sub (cc (cc (cc (cc (cc (cn (cn (.refl _))))))))
    exact ⟨t2, so34, ca35, by rw [show (ts ++ [t2]).length - 1 = ts.length by omega], hk2, M⟩
   ·
    refine qdj (e := 33) (sz := 7) (m := 1) (vs := qn Ty.c [t2]) A M 7 rfl rfl rfl rfl (qx rfl (by kernel_rfl)) rfl rfl (.inl (by decide)) ?_
    intro g38 w39 M
    refine ⟨(M.sub (cn (cn (cn (cc (cn (cn (cn (List.nil_sublist _))))))))), ?_⟩
    intro a A
    refine zd (by kernel_rfl) (ye A 4 rfl rfl rfl rfl (qj M RcD_is1_26 rfl 4 rfl rfl) (M.sub (cn (cn (cn (cc (cn (cn (cn (List.nil_sublist _))))))))) ?_)
    intro a A
    refine zd (by kernel_rfl) (vg (e := 33) (sz := 7) (k := 5) (q := ts.length) (m := 1) (xs := qn Ty.c ts) (news := qn Ty.c [t2]) (L' := fun v40 => (.row 33 7 (.slice (some ⟨g38, 0, none⟩) 1 1) 1 (qn Ty.c [t2]) :: .row 9 1 (.slice t2.fo t2.fs.length t2.fc) t2.fs.length (E.strC t2.fs) :: .row 4 1 (.slice t2.mo t2.ms.length t2.mc) t2.ms.length (E.boolC t2.ms) :: .obj g2 (.cells u.c.toArray 33) :: .obj b (.cells (sC tz tc ts ro rc rs).toArray 73) :: .row 33 7 (v40) (ts.length + 1) (qn Ty.c ts ++ qn Ty.c [t2]) :: .row 86 2 (.slice ro rs.length rc) rs.length (qn Rk.c rs) :: Y)) A 8 rfl rfl rfl rfl (jw (z := .agg #[.string (⟨#[]⟩), .int .i64 0, .slice none 0 0, .slice none 0 0, .bool false, .bool false, .string (⟨#[]⟩)]) (sz := 7) (by_ := 96) Tryz.underlying26 (by kernel_rfl) rfl rfl rfl M 5 rfl rfl rfl rfl (rc_own (M.has 0 rfl)) (qki _) (by omega)) (fun _ => rfl) ?_)
    intro v40 w41 M
    replace M : Mg w0 w41 (.row 33 7 (.slice (some ⟨g38, 0, none⟩) 1 1) 1 (qn Ty.c [t2]) :: .row 9 1 (.slice t2.fo t2.fs.length t2.fc) t2.fs.length (E.strC t2.fs) :: .row 4 1 (.slice t2.mo t2.ms.length t2.mc) t2.ms.length (E.boolC t2.ms) :: .obj g2 (.cells u.c.toArray 33) :: .obj b (.cells (sC tz tc ts ro rc rs).toArray 73) :: .row 33 7 (v40) ((ts ++ [t2]).length) (qn Ty.c (ts ++ [t2])) :: .row 86 2 (.slice ro rs.length rc) rs.length (qn Rk.c rs) :: Y) := by
     have h9 := M
     rw [← jm] at h9
     rw [List.length_append]
     exact h9
    obtain ⟨so42, ca43, rfl⟩ := zx (M.has 5 rfl)
    have hln : (ts ++ [t2]).length = ts.length + 1 := by rw [List.length_append]; rfl
    refine ⟨(M.sub (cn (cn (cn (cc (cn (cn (cn (List.nil_sublist _))))))))), ?_⟩
    intro a A
    refine qe A 9 rfl rfl rfl rfl hP (M.sub (cn (cn (cn (cc (cn (cn (cn (List.nil_sublist _))))))))) (fun w1 M => qs rfl) λa A↦?_
    refine qe (v := .pointer (some ⟨b, 0, none⟩)) A 10 rfl rfl rfl rfl hP (M.sub (cn (cn (cn (cc (cn (cn (cn (List.nil_sublist _))))))))) (fun w1 M => qb RcD_fld_73_0 rfl rfl) λa A↦?_
    refine zd (by kernel_rfl) (vm (us := [.slice so42 ((ts ++ [t2]).length) ca43, .slice ro rs.length rc]) (L' := (.row 33 7 (.slice (some ⟨g38, 0, none⟩) 1 1) 1 (qn Ty.c [t2]) :: .row 9 1 (.slice t2.fo t2.fs.length t2.fc) t2.fs.length (E.strC t2.fs) :: .row 4 1 (.slice t2.mo t2.ms.length t2.mc) t2.ms.length (E.boolC t2.ms) :: .obj g2 (.cells u.c.toArray 33) :: .obj b (.cells #[.slice so42 ((ts ++ [t2]).length) ca43, .slice ro rs.length rc] 73) :: .row 33 7 (.slice so42 ((ts ++ [t2]).length) ca43) ((ts ++ [t2]).length) (qn Ty.c (ts ++ [t2])) :: .row 86 2 (.slice ro rs.length rc) rs.length (qn Rk.c rs) :: Y)) A M 11 rfl rfl rfl (qz rfl rfl rfl (by kernel_rfl) M 4 rfl rfl rfl) 4 rfl rfl rfl ?_)
    intro w44 M
    refine ⟨(M.sub (cn (cn (cn (cc (cn (cn (cn (List.nil_sublist _))))))))), ?_⟩
    refine zn (by kernel_rfl) ?_
    refine hK17 _ _ (wsk fun K45 hK45 => wrl (sdm A λa A↦?_))
    refine sdo A (qs rfl) λa A↦?_
    refine sdo (v := .pointer (some ⟨b, 0, none⟩)) A (qb RcD_fld_73_0 rfl rfl) λa A↦?_
    refine sdo A (qj M RcD_is1_26 rfl 4 rfl rfl) λa A↦?_
    refine sdo A (qr Tryz.underlying26 rfl) λa A↦?_
    refine sdo (v := .int .i64 ((((ts ++ [t2]).length - 1 : Nat) : Int))) A (qf rfl rfl (fun w => (vl (jq (by omega) (by omega)) w).trans (by rw [show ((((ts ++ [t2]).length : Nat) : Int) - 1 : Int) = (((ts ++ [t2]).length - 1 : Nat) : Int) from by omega]))) λa A↦?_
    iterate 2 refine sda A λa A↦?_
    refine qa (hK45 _ _ (wp_ret (hret _ _ (en2 A rfl (qg rfl) (qg rfl) ?_))))
    replace M : Mg w0 w44 (.obj b (.cells #[.slice so42 ((ts ++ [t2]).length) ca43, .slice ro rs.length rc] 73) :: .row 33 7 (.slice so42 ((ts ++ [t2]).length) ca43) ((ts ++ [t2]).length) (qn Ty.c (ts ++ [t2])) :: .row 86 2 (.slice ro rs.length rc) rs.length (qn Rk.c rs) :: .row 9 1 (.slice t2.fo t2.fs.length t2.fc) t2.fs.length (E.strC t2.fs) :: .row 4 1 (.slice t2.mo t2.ms.length t2.mc) t2.ms.length (E.boolC t2.ms) :: Y) := (((((M.bring 2 rfl rfl).bring 2 rfl rfl).bring 6 rfl rfl).bring 6 rfl rfl).bring 6 rfl rfl).sub (cc (cc (cc (cc (cc (cn (cn (.refl _))))))))
    exact ⟨t2, so42, ca43, by rw [show (ts ++ [t2]).length - 1 = ts.length by omega], hk2, M⟩
 refine wp_block (wsk fun K46 hK46 => jn (S := fun w1 => Mg w0 w1 (.obj g2 (.cells u.c.toArray 33) :: .obj b (.cells (sC tz tc ts ro rc rs).toArray 73) :: .row 33 7 (.slice tz ts.length tc) ts.length (qn Ty.c ts) :: [])) (by kernel_rfl) ?_)
 replace M := M.drew
 refine qe (v := .pointer (some ⟨g2, 1, none⟩)) A 0 rfl rfl rfl rfl hP (M.sub (cc (cc (cc (cn (List.nil_sublist _)))))) (fun w1 M => qb RcD_fld_33_1 rfl rfl) λa A↦?_
 refine qe A 1 rfl rfl rfl rfl hP (M.sub (cc (cc (cc (cn (List.nil_sublist _)))))) (fun w1 M => qj M RcD_is1_3 rfl 0 rfl rfl) λa A↦?_
 rcases tf ((u.par != -1)) with hb47 | hb47
 ·
  have hb47' := bne_iff_ne.1 hb47
  refine qe (v := .bool true) A 2 rfl rfl rfl rfl hP (M.sub (cc (cc (cc (cn (List.nil_sublist _)))))) (fun w1 M => qf rfl rfl (fun w => (ja w).trans (by rw [hb47]))) λa A↦?_
  refine qe A 3 rfl rfl rfl rfl hP (M.sub (cc (cc (cc (cn (List.nil_sublist _)))))) (fun w1 M => qt rfl) λa A↦?_
  refine qe A 4 rfl rfl rfl rfl hP (M.sub (cc (cc (cc (cn (List.nil_sublist _)))))) (fun w1 M => qt rfl) λa A↦?_
  refine qe A 5 rfl rfl rfl rfl hP (M.sub (cc (cc (cc (cn (List.nil_sublist _)))))) (fun w1 M => qs rfl) λa A↦?_
  refine qe (v := .pointer (some ⟨b, 0, none⟩)) A 6 rfl rfl rfl rfl hP (M.sub (cc (cc (cc (cn (List.nil_sublist _)))))) (fun w1 M => qb RcD_fld_73_0 rfl rfl) λa A↦?_
  refine qe A 7 rfl rfl rfl rfl hP (M.sub (cc (cc (cc (cn (List.nil_sublist _)))))) (fun w1 M => qj M RcD_is1_26 rfl 1 rfl rfl) λa A↦?_
  refine qe (v := .pointer (some ⟨g2, 1, none⟩)) A 8 rfl rfl rfl rfl hP (M.sub (cc (cc (cc (cn (List.nil_sublist _)))))) (fun w1 M => qb RcD_fld_33_1 rfl rfl) λa A↦?_
  refine qe A 9 rfl rfl rfl rfl hP (M.sub (cc (cc (cc (cn (List.nil_sublist _)))))) (fun w1 M => qj M RcD_is1_3 rfl 0 rfl rfl) λa A↦?_
  obtain ⟨ty48, bt49, ot50, it51, mt52, rt53, lt54, Ht55⟩ := ((hsr _ ((M.dropn 1)))).T.at_ (i := (u.par).toNat) (by omega)
  refine qe (v := .pointer (some ⟨bt49, ot50 + (u.par).toNat * 7, none⟩)) A 10 rfl rfl rfl rfl hP (M.sub (cc (cc (cc (cn (List.nil_sublist _)))))) (fun w1 M => zg (k := (u.par).toNat) Tryz.underlying26 (by kernel_rfl) rfl rfl (by first | rfl | omega) lt54 (by omega)) λa A↦?_
  refine qe (v := .pointer (some ⟨bt49, ot50 + (u.par).toNat * 7 + 4, none⟩)) A 11 rfl rfl rfl rfl hP (M.sub (cc (cc (cc (cn (List.nil_sublist _)))))) (fun w1 M => qb RcD_fld_33_4 rfl rfl) λa A↦?_
  refine qe A 12 rfl rfl rfl rfl hP (M.sub (cc (cc (cc (cn (List.nil_sublist _)))))) (fun w1 M => qci (j := 4) qkh (by decide) M 2 rfl it51 lt54 rfl RcD_is1_4 rfl (by omega)) λa A↦?_
  refine qe (v := .bool ty48.sl) A 13 rfl rfl rfl rfl hP (M.sub (cc (cc (cc (cn (List.nil_sublist _)))))) (fun w1 M => zu rfl rfl rfl rfl) λa A↦?_
  refine qe A 14 rfl rfl rfl rfl hP (M.sub (cc (cc (cc (cn (List.nil_sublist _)))))) (fun w1 M => zf rfl) λa A↦?_
  refine zn (by kernel_rfl) ?_
  refine hK46 _ _ ?_
  refine wp_cond_split (t := ty48.sl) (A.ev rfl) (fun hc56 => ?_) (fun hc56 => ?_)
  ·
   rw [uh (show 0 ≤ u.par by omega) (jc it51)] at hsl
   rw [show ty48.sl = false from hsl] at hc56
   cases hc56
  ·
   refine wsk fun K57 hK57 => jn (S := fun w1 => Mg w0 w1 (.obj g2 (.cells u.c.toArray 33) :: .obj b (.cells (sC tz tc ts ro rc rs).toArray 73) :: [])) (by kernel_rfl) ?_
   replace M := M.drew
   refine qe A 0 rfl rfl rfl rfl hP (M.sub (cc (cc (cn (cn (List.nil_sublist _)))))) (fun w1 M => qt rfl) λa A↦?_
   refine qe (v := .pointer (some ⟨g2, 1, none⟩)) A 1 rfl rfl rfl rfl hP (M.sub (cc (cc (cn (cn (List.nil_sublist _)))))) (fun w1 M => qb RcD_fld_33_1 rfl rfl) λa A↦?_
   refine qe A 2 rfl rfl rfl rfl hP (M.sub (cc (cc (cn (cn (List.nil_sublist _)))))) (fun w1 M => qj M RcD_is1_3 rfl 0 rfl rfl) λa A↦?_
   refine qe (v := .pointer (some ⟨g2, 2, none⟩)) A 4 rfl rfl rfl rfl hP (M.sub (cc (cc (cn (cn (List.nil_sublist _)))))) (fun w1 M => qb RcD_fld_33_2 rfl rfl) λa A↦?_
   refine qe A 5 rfl rfl rfl rfl hP (M.sub (cc (cc (cn (cn (List.nil_sublist _)))))) (fun w1 M => qj M RcD_is1_30 rfl 0 rfl rfl) λa A↦?_
   refine qe (v := .int .i64 (((u.fs.length : Nat) : Int))) A 6 rfl rfl rfl rfl hP (M.sub (cc (cc (cn (cn (List.nil_sublist _)))))) (fun w1 M => qr Tryz.underlying30 rfl) λa A↦?_
   refine zd (by kernel_rfl) (zy A 3 rfl rfl rfl rfl (za rfl rfl (fun w => by kernel_rfl)) (xl (hsr _ ((M.dropn 1))) hW (by omega) (by omega)) ?_)
   rintro _ w59 ⟨rfl, hb58⟩
   replace M := M.call hb58
   refine ⟨_, rfl, (M.sub (cc (cc (cn (cn (List.nil_sublist _)))))), ?_⟩
   intro a A
   refine qe (v := .int .i64 (((cnt (ts.map Ty.k) u.par + u.fs.length : Nat) : Int))) A 7 rfl rfl rfl rfl hP (M.sub (cc (cc (cn (cn (List.nil_sublist _)))))) (fun w1 M => qf rfl rfl (fun w => (jk (jq (by omega) (by omega)) w).trans (by rw [show (((cnt (ts.map Ty.k) u.par : Nat) : Int) + ((u.fs.length : Nat) : Int) : Int) = ((cnt (ts.map Ty.k) u.par + u.fs.length : Nat) : Int) from by omega]))) λa A↦?_
   refine qe (v := .bool false) A 8 rfl rfl rfl rfl hP (M.sub (cc (cc (cn (cn (List.nil_sublist _)))))) (fun w1 M => qf rfl rfl (fun w => (jx w).trans (by rw [show (decide (16 < ((cnt (ts.map Ty.k) u.par + u.fs.length : Nat) : Int))) = false from (decide_eq_false (by omega))]))) λa A↦?_
   refine qe A 9 rfl rfl rfl rfl hP (M.sub (cc (cc (cn (cn (List.nil_sublist _)))))) (fun w1 M => qt rfl) λa A↦?_
   refine qe A 10 rfl rfl rfl rfl hP (M.sub (cc (cc (cn (cn (List.nil_sublist _)))))) (fun w1 M => qt rfl) λa A↦?_
   refine qe A 11 rfl rfl rfl rfl hP (M.sub (cc (cc (cn (cn (List.nil_sublist _)))))) (fun w1 M => qs rfl) λa A↦?_
   refine qe (v := .pointer (some ⟨b, 0, none⟩)) A 12 rfl rfl rfl rfl hP (M.sub (cc (cc (cn (cn (List.nil_sublist _)))))) (fun w1 M => qb RcD_fld_73_0 rfl rfl) λa A↦?_
   refine qe A 13 rfl rfl rfl rfl hP (M.sub (cc (cc (cn (cn (List.nil_sublist _)))))) (fun w1 M => qj M RcD_is1_26 rfl 1 rfl rfl) λa A↦?_
   refine qe (v := .int .i64 (((ts.length : Nat) : Int))) A 14 rfl rfl rfl rfl hP (M.sub (cc (cc (cn (cn (List.nil_sublist _)))))) (fun w1 M => qr Tryz.underlying26 rfl) λa A↦?_
   refine qe (v := .bool false) A 15 rfl rfl rfl rfl hP (M.sub (cc (cc (cn (cn (List.nil_sublist _)))))) (fun w1 M => qf rfl rfl (fun w => (zr w).trans (by rw [show (decide (4096 ≤ ((ts.length : Nat) : Int))) = false from (decide_eq_false (by omega))]))) λa A↦?_
   refine qe (v := .bool false) A 16 rfl rfl rfl rfl hP (M.sub (cc (cc (cn (cn (List.nil_sublist _)))))) (fun w1 M => zu rfl rfl rfl rfl) λa A↦?_
   refine qe A 17 rfl rfl rfl rfl hP (M.sub (cc (cc (cn (cn (List.nil_sublist _)))))) (fun w1 M => zf rfl) λa A↦?_
   refine zn (by kernel_rfl) ?_
   refine hK57 _ _ (wp_cond_false (A.ev rfl) ?_)
   refine wp_skip ?_
   exact hJ14 _ _ ⟨A.keep _ (by repeat' constructor), M⟩
 ·
  have hb47' := bne_eq_false_iff_eq.1 hb47
  refine qe (v := .bool false) A 2 rfl rfl rfl rfl hP (M.sub (cc (cc (cc (cn (List.nil_sublist _)))))) (fun w1 M => qf rfl rfl (fun w => (ja w).trans (by rw [hb47]))) λa A↦?_
  refine qe A 3 rfl rfl rfl rfl hP (M.sub (cc (cc (cc (cn (List.nil_sublist _)))))) (fun w1 M => qt rfl) λa A↦?_
  refine zt A 4 rfl rfl rfl rfl hP (M.sub (cc (cc (cc (cn (List.nil_sublist _)))))) λa A↦?_
  refine zt A 5 rfl rfl rfl rfl hP (M.sub (cc (cc (cc (cn (List.nil_sublist _)))))) λa A↦?_
  refine zt A 6 rfl rfl rfl rfl hP (M.sub (cc (cc (cc (cn (List.nil_sublist _)))))) λa A↦?_
  refine zt A 7 rfl rfl rfl rfl hP (M.sub (cc (cc (cc (cn (List.nil_sublist _)))))) λa A↦?_
  refine zt A 8 rfl rfl rfl rfl hP (M.sub (cc (cc (cc (cn (List.nil_sublist _)))))) λa A↦?_
  refine zt A 9 rfl rfl rfl rfl hP (M.sub (cc (cc (cc (cn (List.nil_sublist _)))))) λa A↦?_
  refine zt A 10 rfl rfl rfl rfl hP (M.sub (cc (cc (cc (cn (List.nil_sublist _)))))) λa A↦?_
  refine zt A 11 rfl rfl rfl rfl hP (M.sub (cc (cc (cc (cn (List.nil_sublist _)))))) λa A↦?_
  refine zt A 12 rfl rfl rfl rfl hP (M.sub (cc (cc (cc (cn (List.nil_sublist _)))))) λa A↦?_
  refine qe (v := .bool false) A 13 rfl rfl rfl rfl hP (M.sub (cc (cc (cc (cn (List.nil_sublist _)))))) (fun w1 M => zu rfl rfl rfl rfl) λa A↦?_
  refine qe A 14 rfl rfl rfl rfl hP (M.sub (cc (cc (cc (cn (List.nil_sublist _)))))) (fun w1 M => zf rfl) λa A↦?_
  refine zn (by kernel_rfl) ?_
  refine hK46 _ _ (wp_cond_false (A.ev rfl) ?_)
  refine wsk fun K60 hK60 => jn (S := fun w1 => Mg w0 w1 (.obj g2 (.cells u.c.toArray 33) :: .obj b (.cells (sC tz tc ts ro rc rs).toArray 73) :: [])) (by kernel_rfl) ?_
  replace M := M.drew
  refine qe A 0 rfl rfl rfl rfl hP (M.sub (cc (cc (cn (cn (List.nil_sublist _)))))) (fun w1 M => qt rfl) λa A↦?_
  refine qe (v := .pointer (some ⟨g2, 1, none⟩)) A 1 rfl rfl rfl rfl hP (M.sub (cc (cc (cn (cn (List.nil_sublist _)))))) (fun w1 M => qb RcD_fld_33_1 rfl rfl) λa A↦?_
  refine qe A 2 rfl rfl rfl rfl hP (M.sub (cc (cc (cn (cn (List.nil_sublist _)))))) (fun w1 M => qj M RcD_is1_3 rfl 0 rfl rfl) λa A↦?_
  refine qe (v := .pointer (some ⟨g2, 2, none⟩)) A 4 rfl rfl rfl rfl hP (M.sub (cc (cc (cn (cn (List.nil_sublist _)))))) (fun w1 M => qb RcD_fld_33_2 rfl rfl) λa A↦?_
  refine qe A 5 rfl rfl rfl rfl hP (M.sub (cc (cc (cn (cn (List.nil_sublist _)))))) (fun w1 M => qj M RcD_is1_30 rfl 0 rfl rfl) λa A↦?_
  refine qe (v := .int .i64 (((u.fs.length : Nat) : Int))) A 6 rfl rfl rfl rfl hP (M.sub (cc (cc (cn (cn (List.nil_sublist _)))))) (fun w1 M => qr Tryz.underlying30 rfl) λa A↦?_
  refine zd (by kernel_rfl) (zy A 3 rfl rfl rfl rfl (za rfl rfl (fun w => by kernel_rfl)) (xl (hsr _ ((M.dropn 1))) hW (by omega) (by omega)) ?_)
  rintro _ w62 ⟨rfl, hb61⟩
  replace M := M.call hb61
  refine ⟨_, rfl, (M.sub (cc (cc (cn (cn (List.nil_sublist _)))))), ?_⟩
  intro a A
  refine qe (v := .int .i64 (((cnt (ts.map Ty.k) u.par + u.fs.length : Nat) : Int))) A 7 rfl rfl rfl rfl hP (M.sub (cc (cc (cn (cn (List.nil_sublist _)))))) (fun w1 M => qf rfl rfl (fun w => (jk (jq (by omega) (by omega)) w).trans (by rw [show (((cnt (ts.map Ty.k) u.par : Nat) : Int) + ((u.fs.length : Nat) : Int) : Int) = ((cnt (ts.map Ty.k) u.par + u.fs.length : Nat) : Int) from by omega]))) λa A↦?_
  refine qe (v := .bool false) A 8 rfl rfl rfl rfl hP (M.sub (cc (cc (cn (cn (List.nil_sublist _)))))) (fun w1 M => qf rfl rfl (fun w => (jx w).trans (by rw [show (decide (16 < ((cnt (ts.map Ty.k) u.par + u.fs.length : Nat) : Int))) = false from (decide_eq_false (by omega))]))) λa A↦?_
  refine qe A 9 rfl rfl rfl rfl hP (M.sub (cc (cc (cn (cn (List.nil_sublist _)))))) (fun w1 M => qt rfl) λa A↦?_
  refine qe A 10 rfl rfl rfl rfl hP (M.sub (cc (cc (cn (cn (List.nil_sublist _)))))) (fun w1 M => qt rfl) λa A↦?_
  refine qe A 11 rfl rfl rfl rfl hP (M.sub (cc (cc (cn (cn (List.nil_sublist _)))))) (fun w1 M => qs rfl) λa A↦?_
  refine qe (v := .pointer (some ⟨b, 0, none⟩)) A 12 rfl rfl rfl rfl hP (M.sub (cc (cc (cn (cn (List.nil_sublist _)))))) (fun w1 M => qb RcD_fld_73_0 rfl rfl) λa A↦?_
  refine qe A 13 rfl rfl rfl rfl hP (M.sub (cc (cc (cn (cn (List.nil_sublist _)))))) (fun w1 M => qj M RcD_is1_26 rfl 1 rfl rfl) λa A↦?_
  refine qe (v := .int .i64 (((ts.length : Nat) : Int))) A 14 rfl rfl rfl rfl hP (M.sub (cc (cc (cn (cn (List.nil_sublist _)))))) (fun w1 M => qr Tryz.underlying26 rfl) λa A↦?_
  refine qe (v := .bool false) A 15 rfl rfl rfl rfl hP (M.sub (cc (cc (cn (cn (List.nil_sublist _)))))) (fun w1 M => qf rfl rfl (fun w => (zr w).trans (by rw [show (decide (4096 ≤ ((ts.length : Nat) : Int))) = false from (decide_eq_false (by omega))]))) λa A↦?_
  refine qe (v := .bool false) A 16 rfl rfl rfl rfl hP (M.sub (cc (cc (cn (cn (List.nil_sublist _)))))) (fun w1 M => zu rfl rfl rfl rfl) λa A↦?_
  refine qe A 17 rfl rfl rfl rfl hP (M.sub (cc (cc (cn (cn (List.nil_sublist _)))))) (fun w1 M => zf rfl) λa A↦?_
  refine zn (by kernel_rfl) ?_
  refine hK60 _ _ (wp_cond_false (A.ev rfl) ?_)
  refine wp_skip ?_
  exact hJ14 _ _ ⟨A.keep _ (by repeat' constructor), M⟩
theorem qdg {w : World} {t : Dt} (ht : t.rd w) (hT : Tabs8 w) : Calls Tryz.prog 34 #[.agg (t.d.cells t.ts.length).toArray] w fun e w' => e = .returned (.bool (!jf zp t.tr)) ∧ Below w.heap.size w w' := by
 have M : Mg w w ([]) := Mg.start w
 refine qp (l := [(0, .agg (t.d.cells t.ts.length).toArray)]) Tryz.func34 rfl Tryz.ntmps34 rfl rfl ?_
 intro Q hret hnorm hP a A
 refine wsk fun K1 hK1 => wrl (zw (vs := (t.d.cells t.ts.length)) (t := 42) A M rfl rfl rfl pg (zk rfl rfl) (by decide) ?_)
 intro g2 w3 M a A
 refine sda A λa A↦?_
 refine qa (hK1 _ _ (wsk fun K4 hK4 => wrl (sdo A (je M RcD_isS_42 rfl 0 rfl (cs := (t.d.cells t.ts.length)) rfl rfl) λa A↦?_)))
 rcases tf (jf zp t.tr) with hb5 | hb5
 ·
  refine gcl A M (ef rfl rfl) ((hb5 ▸ sound_any (t := t) (Dt.keep M.bel _ ht) (hT.below M.bel))) fun w7 hb6 M a A => ?_
  refine sdo (v := .bool false) A (zm rfl jb) λa A↦?_
  refine sda A λa A↦?_
  refine qa (hK4 _ _ (wp_ret (hret _ _ (en1 A rfl (qg rfl) ?_))))
  exact ⟨by simp_all, M.bel⟩
 ·
  refine gcl A M (ef rfl rfl) ((hb5 ▸ sound_any (t := t) (Dt.keep M.bel _ ht) (hT.below M.bel))) fun w9 hb8 M a A => ?_
  refine sdo (v := .bool true) A (zm rfl jb) λa A↦?_
  refine sda A λa A↦?_
  refine qa (hK4 _ _ (wp_ret (hret _ _ (en1 A rfl (qg rfl) ?_))))
  exact ⟨by simp_all, M.bel⟩
theorem asks_un {w : World} {ts : List Dt} (hD : ∀ t ∈ ts, t.rd w) (hT : Tabs8 w) : Asks Tryz.prog 34 [] w ts (fun t => !jf zp t.tr) := ⟨fun us w => by kernel_rfl, fun t w1 ht hb => qdg (Dt.keep hb _ (hD t ht)) (hT.below hb)⟩
theorem any_all (vs : List Dt) : (vs.any fun t => !jf zp t.tr) = !(vs.map Dt.tr).all (jf zp) := by
 induction vs with
 | nil => rfl
 | cons t ts ih => rw [List.any_cons, List.map_cons, List.all_cons, ih, Bool.not_and]
theorem ke {w : World} {so : Option Addr} {ca : Nat} {vs : List Dt} (hR : Rt w so vs) (hD : ∀ t ∈ vs, t.rd w) (hl : vs.length ≤ 1000000000) (hT : Tabs8 w) {b : Bool} (h : (vs.map Dt.tr).all (jf zp) = b) : Calls Tryz.prog 33 #[.slice so vs.length ca, .func (.func 34) #[] #[]] w fun e w' => e = .returned (.bool (!b)) ∧ Below w.heap.size w w' := by
 have := qgg (ca := ca) (cs := []) hR hD hl (asks_un hD hT)
 rw [any_all, h] at this
 exact this
set_option maxHeartbeats 2000000 in
theorem make_ok {w0 w : World} {b tc rc : Nat} {tz ro : Option Addr} {ts : List Ty} {rs : List Rk} {Y : List Ck} (hY : zv Y) (hW : WS (ts.map Ty.k) (rs.map Rk.k)) (hsr : ∀ w1, Mg w0 w1 (.obj b (.cells (sC tz tc ts ro rc rs).toArray 73) :: .row 33 7 (.slice tz ts.length tc) ts.length (qn Ty.c ts) :: .row 86 2 (.slice ro rs.length rc) rs.length (qn Rk.c rs) :: Y) → SR w1 b tz tc ts ro rc rs) (hM0 : Mg w0 w (.obj b (.cells (sC tz tc ts ro rc rs).toArray 73) :: .row 33 7 (.slice tz ts.length tc) ts.length (qn Ty.c ts) :: .row 86 2 (.slice ro rs.length rc) rs.length (qn Rk.c rs) :: Y)) {vo : Option Addr} {vc : Nat} {vs : List Dt} (hV : ∀ w1, Mg w0 w1 Y → Rt w1 vo vs ∧ ∀ d ∈ vs, d.rd w1) (hvb : Tr.bulks (vs.map Dt.tr) ≤ 1000000000) (hT : ∀ w1, Mg w0 w1 Y → Tabs8 w1) {t : Int} (hok : okT ts.length t = true) (hcn : vs.length = cnt (ts.map Ty.k) t) (hso : (vs.map Dt.tr).all (jf zp) = true) (hn : rs.length < 20000) : Calls Tryz.prog 10 #[.pointer (some ⟨b, 0, none⟩), .int .i64 t, .slice vo vs.length vc] w fun e w' => ∃ (us : List Dt) (so6 : Option Addr) (ca6 : Nat) (ro' : Option Addr) (rc' : Nat) (F : List Ck), e = .returned (.tuple #[.int .i64 ((rs.length : Nat) : Int), .int .i64 0]) ∧ (us.map Dt.tr = vs.map Dt.tr ∧ (∀ d ∈ us, Lives F d) ∧ zv F) ∧ Mg w0 w' (.obj b (.cells #[.slice tz ts.length tc, .slice ro' ((rs ++ [(Rk.mk t.toNat so6 ca6 us)]).length) rc'] 73) :: .row 33 7 (.slice tz ts.length tc) ts.length (qn Ty.c ts) :: .row 86 2 (.slice ro' ((rs ++ [(Rk.mk t.toNat so6 ca6 us)]).length) rc') ((rs ++ [(Rk.mk t.toNat so6 ca6 us)]).length) (qn Rk.c (rs ++ [(Rk.mk t.toNat so6 ca6 us)])) :: .row 42 11 (.slice so6 us.length ca6) us.length (qi us) :: (F ++ Y)) := by
 have hkl := hW.kl
 have hrl := hW.rl
 rw [List.length_map] at hkl hrl
 have hvl := vh vs
 obtain ⟨ht0, ht1⟩ := ka hok
 have M : Mg w0 w (.obj b (.cells (sC tz tc ts ro rc rs).toArray 73) :: .row 33 7 (.slice tz ts.length tc) ts.length (qn Ty.c ts) :: .row 86 2 (.slice ro rs.length rc) rs.length (qn Rk.c rs) :: Y) := hM0
 refine qp (l := [(0, .pointer (some ⟨b, 0, none⟩)), (1, .int .i64 t), (2, .slice vo vs.length vc)]) Tryz.func10 rfl Tryz.ntmps10 rfl rfl ?_
 intro Q hret hnorm hP a A
 refine wsk fun K1 hK1 => wrl ?_
 iterate 2 refine sda A λa A↦?_
 refine qa (hK1 _ _ (wsk fun K2 hK2 => wrl ?_))
 iterate 2 refine sdm A λa A↦?_
 refine gcl A M (ef rfl rfl) (vb (hsr _ ((M.dropn 0))) hW hok) fun w4 hb3 M a A => ?_
 refine sda A λa A↦?_
 refine qa (hK2 _ _ (wsk fun K5 hK5 => wp_block (wsk fun K6 hK6 => wrl (sdm A λa A↦?_))))
 refine sdo (v := .bool false) A (qf rfl rfl (fun w => by kernel_rfl)) λa A↦?_
 refine sda A λa A↦?_
 refine qa (hK6 _ _ (wp_cond_false (A.ev rfl) ?_))
 refine wsk fun K7 hK7 => wrl (sdm A λa A↦?_)
 refine sdo A (qr Tryz.underlying34 rfl) λa A↦?_
 iterate 2 refine sdm A λa A↦?_
 refine gcl A M (ef rfl rfl) (xl (hsr _ ((M.dropn 0))) hW (by omega) (by omega)) fun w9 hb8 M a A => ?_
 refine sdo (v := .bool false) A (qf rfl rfl (fun w => (ja w).trans (by rw [show ((((vs.length : Nat) : Int) != ((cnt (ts.map Ty.k) t : Nat) : Int))) = false from (by simp; omega)]))) λa A↦?_
 refine sda A λa A↦?_
 refine qa (hK7 _ _ (wp_cond_false (A.ev rfl) ?_))
 refine wsk fun K10 hK10 => wrl (sdm A λa A↦?_)
 refine gcl A M (ef rfl rfl) (ke (hV _ (M.dropn 3)).1 (hV _ (M.dropn 3)).2 (by omega) (hT _ (M.dropn 3)) hso) fun w12 hb11 M a A => ?_
 refine sda A λa A↦?_
 refine qa (hK10 _ _ (wp_cond_false (A.ev rfl) ?_))
 refine wsk fun K13 hK13 => wrl (sdm A λa A↦?_)
 refine sdo A (qs rfl) λa A↦?_
 refine sdo (v := .pointer (some ⟨b, 1, none⟩)) A (qb RcD_fld_73_1 rfl rfl) λa A↦?_
 refine sdo A (qj M RcD_is1_71 rfl 0 rfl rfl) λa A↦?_
 refine sdo A (qr Tryz.underlying71 rfl) λa A↦?_
 refine sdo (v := .bool false) A (qf rfl rfl (fun w => (zr w).trans (by rw [show (decide (20000 ≤ ((rs.length : Nat) : Int))) = false from (decide_eq_false (by omega))]))) λa A↦?_
 refine sda A λa A↦?_
 refine qa (hK13 _ _ (wp_cond_false (A.ev rfl) ?_))
 refine wp_skip (hK5 _ _ (wsk fun K14 hK14 => jn (S := fun w1 => Mg w0 w1 ([])) (by kernel_rfl) ?_))
 replace M := M.drew
 refine qe A 0 rfl rfl rfl rfl hP (M.sub (cn (cn (cn (List.nil_sublist _))))) (fun w1 M => qt rfl) λa A↦?_
 refine qe A 1 rfl rfl rfl rfl hP (M.sub (cn (cn (cn (List.nil_sublist _))))) (fun w1 M => qt rfl) λa A↦?_
 refine qe A 2 rfl rfl rfl rfl hP (M.sub (cn (cn (cn (List.nil_sublist _))))) (fun w1 M => qs rfl) λa A↦?_
 refine qe (v := .pointer (some ⟨b, 1, none⟩)) A 3 rfl rfl rfl rfl hP (M.sub (cn (cn (cn (List.nil_sublist _))))) (fun w1 M => qb RcD_fld_73_1 rfl rfl) λa A↦?_
 refine qe A 5 rfl rfl rfl rfl hP (M.sub (cn (cn (cn (List.nil_sublist _))))) (fun w1 M => qt rfl) λa A↦?_
 refine qe A 6 rfl rfl rfl rfl hP (M.sub (cn (cn (cn (List.nil_sublist _))))) (fun w1 M => qt rfl) λa A↦?_
 refine vu (rs := [4, 7]) (by kernel_rfl) (by simp) ⟨?_, ?_, trivial⟩
 ·
  refine ye A 4 rfl rfl rfl rfl (qj M RcD_is1_71 rfl 0 rfl rfl) (M.sub (cn (cn (cn (List.nil_sublist _))))) λa A↦?_
  refine zd (by kernel_rfl) (zy A 7 rfl rfl rfl rfl (za rfl rfl (fun w => by kernel_rfl)) (uj (fun t _ => vp t) (hV _ (M.dropn 3)).1 (hV _ (M.dropn 3)).2 hvb) ?_)
  rintro _ w16 ⟨v6, us, rfl, ⟨htr, hus⟩, hM15⟩
  obtain ⟨so6, ca6, rfl⟩ := zx (hM15.has 0 rfl)
  have hun : us.length = vs.length := by have := congrArg List.length htr; simpa using this
  have hLu : ∀ t ∈ us, Lives (others w12.drew w16 [.row 42 11 (.slice so6 us.length ca6) us.length (qi us)]) t := fun t ht => yt (hus t ht).1 (Dt.at_mono (fun b9 hb9 => ⟨hb9.1, fun d hd => by rw [List.mem_singleton] at hd; subst hd; exact hb9.2⟩) _ (hus t ht).2)
  replace M : Mg w0 w16 (.row 42 11 (.slice so6 us.length ca6) us.length (qi us) :: .obj b (.cells (sC tz tc ts ro rc rs).toArray 73) :: .row 33 7 (.slice tz ts.length tc) ts.length (qn Ty.c ts) :: .row 86 2 (.slice ro rs.length rc) rs.length (qn Rk.c rs) :: (others w12.drew w16 [.row 42 11 (.slice so6 us.length ca6) us.length (qi us)] ++ Y)) := M.data 3 (qh (by simp) (qh (by simp) (qh (by simp) hY))) hM15 (qh (by simp) (qk qm))
  refine ⟨_, rfl, (M.sub (cn (cn (cn (cn (List.nil_sublist _)))))), ?_⟩
  intro a A
  refine qe (v := .agg #[.int .i64 (((t.toNat : Nat) : Int)), .slice so6 us.length ca6]) A 8 rfl rfl rfl rfl hP (M.sub (cn (cn (cn (cn (List.nil_sublist _)))))) (fun w1 M => zj rfl (fun w => by rw [show ((t.toNat : Nat) : Int) = t by omega]; kernel_rfl)) λa A↦?_
  refine zd (by kernel_rfl) (qdj (e := 86) (sz := 2) (m := 1) (vs := qn Rk.c [(Rk.mk t.toNat so6 ca6 us)]) A M 9 rfl rfl rfl rfl (qx rfl (by kernel_rfl)) rfl rfl (.inl (by decide)) ?_)
  intro g17 w18 M
  refine ⟨(M.sub (cn (cn (cn (cn (cn (List.nil_sublist _))))))), ?_⟩
  intro a A
  refine zd (by kernel_rfl) (vg (e := 86) (sz := 2) (k := 4) (q := rs.length) (m := 1) (xs := qn Rk.c rs) (news := qn Rk.c [(Rk.mk t.toNat so6 ca6 us)]) (L' := fun v19 => (.row 86 2 (.slice (some ⟨g17, 0, none⟩) 1 1) 1 (qn Rk.c [(Rk.mk t.toNat so6 ca6 us)]) :: .row 42 11 (.slice so6 us.length ca6) us.length (qi us) :: .obj b (.cells (sC tz tc ts ro rc rs).toArray 73) :: .row 33 7 (.slice tz ts.length tc) ts.length (qn Ty.c ts) :: .row 86 2 (v19) (rs.length + 1) (qn Rk.c rs ++ qn Rk.c [(Rk.mk t.toNat so6 ca6 us)]) :: (others w12.drew w16 [.row 42 11 (.slice so6 us.length ca6) us.length (qi us)] ++ Y))) A 10 rfl rfl rfl rfl (jw (z := .agg #[.int .i64 0, .slice none 0 0]) (sz := 2) (by_ := 32) Tryz.underlying71 (by kernel_rfl) rfl rfl rfl M 4 rfl rfl rfl rfl (rc_own (M.has 0 rfl)) (qkj _) (by omega)) (fun _ => rfl) ?_)
  intro v19 w20 M
  replace M : Mg w0 w20 (.row 86 2 (.slice (some ⟨g17, 0, none⟩) 1 1) 1 (qn Rk.c [(Rk.mk t.toNat so6 ca6 us)]) :: .row 42 11 (.slice so6 us.length ca6) us.length (qi us) :: .obj b (.cells (sC tz tc ts ro rc rs).toArray 73) :: .row 33 7 (.slice tz ts.length tc) ts.length (qn Ty.c ts) :: .row 86 2 (v19) ((rs ++ [(Rk.mk t.toNat so6 ca6 us)]).length) (qn Rk.c (rs ++ [(Rk.mk t.toNat so6 ca6 us)])) :: (others w12.drew w16 [.row 42 11 (.slice so6 us.length ca6) us.length (qi us)] ++ Y)) := by
   have h9 := M
   rw [← jm] at h9
   rw [List.length_append]
   exact h9
  obtain ⟨so21, ca22, rfl⟩ := zx (M.has 4 rfl)
  have hln : (rs ++ [(Rk.mk t.toNat so6 ca6 us)]).length = rs.length + 1 := by rw [List.length_append]; rfl
  refine ⟨(M.sub (cn (cn (cn (cn (cn (List.nil_sublist _))))))), ?_⟩
  intro a A
  refine qe A 11 rfl rfl rfl rfl hP (M.sub (cn (cn (cn (cn (cn (List.nil_sublist _))))))) (fun w1 M => qs rfl) λa A↦?_
  refine qe (v := .pointer (some ⟨b, 1, none⟩)) A 12 rfl rfl rfl rfl hP (M.sub (cn (cn (cn (cn (cn (List.nil_sublist _))))))) (fun w1 M => qb RcD_fld_73_1 rfl rfl) λa A↦?_
  refine zd (by kernel_rfl) (vm (us := [.slice tz ts.length tc, .slice so21 ((rs ++ [(Rk.mk t.toNat so6 ca6 us)]).length) ca22]) (L' := (.row 86 2 (.slice (some ⟨g17, 0, none⟩) 1 1) 1 (qn Rk.c [(Rk.mk t.toNat so6 ca6 us)]) :: .row 42 11 (.slice so6 us.length ca6) us.length (qi us) :: .obj b (.cells #[.slice tz ts.length tc, .slice so21 ((rs ++ [(Rk.mk t.toNat so6 ca6 us)]).length) ca22] 73) :: .row 33 7 (.slice tz ts.length tc) ts.length (qn Ty.c ts) :: .row 86 2 (.slice so21 ((rs ++ [(Rk.mk t.toNat so6 ca6 us)]).length) ca22) ((rs ++ [(Rk.mk t.toNat so6 ca6 us)]).length) (qn Rk.c (rs ++ [(Rk.mk t.toNat so6 ca6 us)])) :: (others w12.drew w16 [.row 42 11 (.slice so6 us.length ca6) us.length (qi us)] ++ Y))) A M 13 rfl rfl rfl (qz rfl rfl rfl (by kernel_rfl) M 2 rfl rfl rfl) 2 rfl rfl rfl ?_)
  intro w23 M
  refine ⟨(M.sub (cn (cn (cn (cn (cn (List.nil_sublist _))))))), ?_⟩
  refine zn (by kernel_rfl) ?_
  refine hK14 _ _ (wsk fun K24 hK24 => wrl (sdm A λa A↦?_))
  refine sdo A (qs rfl) λa A↦?_
  refine sdo (v := .pointer (some ⟨b, 1, none⟩)) A (qb RcD_fld_73_1 rfl rfl) λa A↦?_
  refine sdo A (qj M RcD_is1_71 rfl 2 rfl rfl) λa A↦?_
  refine sdo A (qr Tryz.underlying71 rfl) λa A↦?_
  refine sdo (v := .int .i64 ((((rs ++ [(Rk.mk t.toNat so6 ca6 us)]).length - 1 : Nat) : Int))) A (qf rfl rfl (fun w => (vl (jq (by omega) (by omega)) w).trans (by rw [show ((((rs ++ [(Rk.mk t.toNat so6 ca6 us)]).length : Nat) : Int) - 1 : Int) = (((rs ++ [(Rk.mk t.toNat so6 ca6 us)]).length - 1 : Nat) : Int) from by omega]))) λa A↦?_
  iterate 2 refine sda A λa A↦?_
  refine qa (hK24 _ _ (wp_ret (hret _ _ (en2 A rfl (qg rfl) (qg rfl) ?_))))
  replace M : Mg w0 w23 (.obj b (.cells #[.slice tz ts.length tc, .slice so21 ((rs ++ [(Rk.mk t.toNat so6 ca6 us)]).length) ca22] 73) :: .row 33 7 (.slice tz ts.length tc) ts.length (qn Ty.c ts) :: .row 86 2 (.slice so21 ((rs ++ [(Rk.mk t.toNat so6 ca6 us)]).length) ca22) ((rs ++ [(Rk.mk t.toNat so6 ca6 us)]).length) (qn Rk.c (rs ++ [(Rk.mk t.toNat so6 ca6 us)])) :: .row 42 11 (.slice so6 us.length ca6) us.length (qi us) :: (others w12.drew w16 [.row 42 11 (.slice so6 us.length ca6) us.length (qi us)] ++ Y)) := ((((M.bring 1 rfl rfl).bring 4 rfl rfl).bring 4 rfl rfl).bring 4 rfl rfl).sub (cc (cc (cc (cc (cn (.refl _))))))
  exact ⟨us, so6, ca6, so21, ca22, _, by rw [show (rs ++ [(Rk.mk t.toNat so6 ca6 us)]).length - 1 = rs.length by omega], ⟨htr, hLu, vq⟩, M⟩
 ·
  refine zy A 7 rfl rfl rfl rfl (za rfl rfl (fun w => by kernel_rfl)) (uj (fun t _ => vp t) (hV _ (M.dropn 3)).1 (hV _ (M.dropn 3)).2 hvb) ?_
  rintro _ w26 ⟨v6, us, rfl, ⟨htr, hus⟩, hM25⟩
  obtain ⟨so6, ca6, rfl⟩ := zx (hM25.has 0 rfl)
  have hun : us.length = vs.length := by have := congrArg List.length htr; simpa using this
  have hLu : ∀ t ∈ us, Lives (others w12.drew w26 [.row 42 11 (.slice so6 us.length ca6) us.length (qi us)]) t := fun t ht => yt (hus t ht).1 (Dt.at_mono (fun b9 hb9 => ⟨hb9.1, fun d hd => by rw [List.mem_singleton] at hd; subst hd; exact hb9.2⟩) _ (hus t ht).2)
  replace M : Mg w0 w26 (.row 42 11 (.slice so6 us.length ca6) us.length (qi us) :: .obj b (.cells (sC tz tc ts ro rc rs).toArray 73) :: .row 33 7 (.slice tz ts.length tc) ts.length (qn Ty.c ts) :: .row 86 2 (.slice ro rs.length rc) rs.length (qn Rk.c rs) :: (others w12.drew w26 [.row 42 11 (.slice so6 us.length ca6) us.length (qi us)] ++ Y)) := M.data 3 (qh (by simp) (qh (by simp) (qh (by simp) hY))) hM25 (qh (by simp) (qk qm))
  refine ⟨_, rfl, (M.sub (cn (cn (cn (cn (List.nil_sublist _)))))), ?_⟩
  intro a A
  refine qe (v := .agg #[.int .i64 (((t.toNat : Nat) : Int)), .slice so6 us.length ca6]) A 8 rfl rfl rfl rfl hP (M.sub (cn (cn (cn (cn (List.nil_sublist _)))))) (fun w1 M => zj rfl (fun w => by rw [show ((t.toNat : Nat) : Int) = t by omega]; kernel_rfl)) λa A↦?_
  refine vu (rs := [4, 9]) (by kernel_rfl) (by simp) ⟨?_, ?_, trivial⟩
  ·
   refine ye A 4 rfl rfl rfl rfl (qj M RcD_is1_71 rfl 1 rfl rfl) (M.sub (cn (cn (cn (cn (List.nil_sublist _)))))) λa A↦?_
   refine zd (by kernel_rfl) (qdj (e := 86) (sz := 2) (m := 1) (vs := qn Rk.c [(Rk.mk t.toNat so6 ca6 us)]) A M 9 rfl rfl rfl rfl (qx rfl (by kernel_rfl)) rfl rfl (.inl (by decide)) ?_)
   intro g27 w28 M
   refine ⟨(M.sub (cn (cn (cn (cn (cn (List.nil_sublist _))))))), ?_⟩
   intro a A
   refine zd (by kernel_rfl) (vg (e := 86) (sz := 2) (k := 4) (q := rs.length) (m := 1) (xs := qn Rk.c rs) (news := qn Rk.c [(Rk.mk t.toNat so6 ca6 us)]) (L' := fun v29 => (.row 86 2 (.slice (some ⟨g27, 0, none⟩) 1 1) 1 (qn Rk.c [(Rk.mk t.toNat so6 ca6 us)]) :: .row 42 11 (.slice so6 us.length ca6) us.length (qi us) :: .obj b (.cells (sC tz tc ts ro rc rs).toArray 73) :: .row 33 7 (.slice tz ts.length tc) ts.length (qn Ty.c ts) :: .row 86 2 (v29) (rs.length + 1) (qn Rk.c rs ++ qn Rk.c [(Rk.mk t.toNat so6 ca6 us)]) :: (others w12.drew w26 [.row 42 11 (.slice so6 us.length ca6) us.length (qi us)] ++ Y))) A 10 rfl rfl rfl rfl (jw (z := .agg #[.int .i64 0, .slice none 0 0]) (sz := 2) (by_ := 32) Tryz.underlying71 (by kernel_rfl) rfl rfl rfl M 4 rfl rfl rfl rfl (rc_own (M.has 0 rfl)) (qkj _) (by omega)) (fun _ => rfl) ?_)
   intro v29 w30 M
   replace M : Mg w0 w30 (.row 86 2 (.slice (some ⟨g27, 0, none⟩) 1 1) 1 (qn Rk.c [(Rk.mk t.toNat so6 ca6 us)]) :: .row 42 11 (.slice so6 us.length ca6) us.length (qi us) :: .obj b (.cells (sC tz tc ts ro rc rs).toArray 73) :: .row 33 7 (.slice tz ts.length tc) ts.length (qn Ty.c ts) :: .row 86 2 (v29) ((rs ++ [(Rk.mk t.toNat so6 ca6 us)]).length) (qn Rk.c (rs ++ [(Rk.mk t.toNat so6 ca6 us)])) :: (others w12.drew w26 [.row 42 11 (.slice so6 us.length ca6) us.length (qi us)] ++ Y)) := by
    have h9 := M
    rw [← jm] at h9
    rw [List.length_append]
    exact h9
   obtain ⟨so31, ca32, rfl⟩ := zx (M.has 4 rfl)
   have hln : (rs ++ [(Rk.mk t.toNat so6 ca6 us)]).length = rs.length + 1 := by rw [List.length_append]; rfl
   refine ⟨(M.sub (cn (cn (cn (cn (cn (List.nil_sublist _))))))), ?_⟩
   intro a A
   refine qe A 11 rfl rfl rfl rfl hP (M.sub (cn (cn (cn (cn (cn (List.nil_sublist _))))))) (fun w1 M => qs rfl) λa A↦?_
   refine qe (v := .pointer (some ⟨b, 1, none⟩)) A 12 rfl rfl rfl rfl hP (M.sub (cn (cn (cn (cn (cn (List.nil_sublist _))))))) (fun w1 M => qb RcD_fld_73_1 rfl rfl) λa A↦?_
   refine zd (by kernel_rfl) (vm (us := [.slice tz ts.length tc, .slice so31 ((rs ++ [(Rk.mk t.toNat so6 ca6 us)]).length) ca32]) (L' := (.row 86 2 (.slice (some ⟨g27, 0, none⟩) 1 1) 1 (qn Rk.c [(Rk.mk t.toNat so6 ca6 us)]) :: .row 42 11 (.slice so6 us.length ca6) us.length (qi us) :: .obj b (.cells #[.slice tz ts.length tc, .slice so31 ((rs ++ [(Rk.mk t.toNat so6 ca6 us)]).length) ca32] 73) :: .row 33 7 (.slice tz ts.length tc) ts.length (qn Ty.c ts) :: .row 86 2 (.slice so31 ((rs ++ [(Rk.mk t.toNat so6 ca6 us)]).length) ca32) ((rs ++ [(Rk.mk t.toNat so6 ca6 us)]).length) (qn Rk.c (rs ++ [(Rk.mk t.toNat so6 ca6 us)])) :: (others w12.drew w26 [.row 42 11 (.slice so6 us.length ca6) us.length (qi us)] ++ Y))) A M 13 rfl rfl rfl (qz rfl rfl rfl (by kernel_rfl) M 2 rfl rfl rfl) 2 rfl rfl rfl ?_)
   intro w33 M
   refine ⟨(M.sub (cn (cn (cn (cn (cn (List.nil_sublist _))))))), ?_⟩
   refine zn (by kernel_rfl) ?_
   refine hK14 _ _ (wsk fun K34 hK34 => wrl (sdm A λa A↦?_))
   refine sdo A (qs rfl) λa A↦?_
   refine sdo (v := .pointer (some ⟨b, 1, none⟩)) A (qb RcD_fld_73_1 rfl rfl) λa A↦?_
   refine sdo A (qj M RcD_is1_71 rfl 2 rfl rfl) λa A↦?_
   refine sdo A (qr Tryz.underlying71 rfl) λa A↦?_
   refine sdo (v := .int .i64 ((((rs ++ [(Rk.mk t.toNat so6 ca6 us)]).length - 1 : Nat) : Int))) A (qf rfl rfl (fun w => (vl (jq (by omega) (by omega)) w).trans (by rw [show ((((rs ++ [(Rk.mk t.toNat so6 ca6 us)]).length : Nat) : Int) - 1 : Int) = (((rs ++ [(Rk.mk t.toNat so6 ca6 us)]).length - 1 : Nat) : Int) from by omega]))) λa A↦?_
   iterate 2 refine sda A λa A↦?_
   refine qa (hK34 _ _ (wp_ret (hret _ _ (en2 A rfl (qg rfl) (qg rfl) ?_))))
   replace M : Mg w0 w33 (.obj b (.cells #[.slice tz ts.length tc, .slice so31 ((rs ++ [(Rk.mk t.toNat so6 ca6 us)]).length) ca32] 73) :: .row 33 7 (.slice tz ts.length tc) ts.length (qn Ty.c ts) :: .row 86 2 (.slice so31 ((rs ++ [(Rk.mk t.toNat so6 ca6 us)]).length) ca32) ((rs ++ [(Rk.mk t.toNat so6 ca6 us)]).length) (qn Rk.c (rs ++ [(Rk.mk t.toNat so6 ca6 us)])) :: .row 42 11 (.slice so6 us.length ca6) us.length (qi us) :: (others w12.drew w26 [.row 42 11 (.slice so6 us.length ca6) us.length (qi us)] ++ Y)) := ((((M.bring 1 rfl rfl).bring 4 rfl rfl).bring 4 rfl rfl).bring 4 rfl rfl).sub (cc (cc (cc (cc (cn (.refl _))))))
   exact ⟨us, so6, ca6, so31, ca32, _, by rw [show (rs ++ [(Rk.mk t.toNat so6 ca6 us)]).length - 1 = rs.length by omega], ⟨htr, hLu, vq⟩, M⟩
  ·
   refine qdj (e := 86) (sz := 2) (m := 1) (vs := qn Rk.c [(Rk.mk t.toNat so6 ca6 us)]) A M 9 rfl rfl rfl rfl (qx rfl (by kernel_rfl)) rfl rfl (.inl (by decide)) ?_
   intro g35 w36 M
   refine ⟨(M.sub (cn (cn (cn (cn (cn (List.nil_sublist _))))))), ?_⟩
   intro a A
   refine zd (by kernel_rfl) (ye A 4 rfl rfl rfl rfl (qj M RcD_is1_71 rfl 2 rfl rfl) (M.sub (cn (cn (cn (cn (cn (List.nil_sublist _))))))) ?_)
   intro a A
   refine zd (by kernel_rfl) (vg (e := 86) (sz := 2) (k := 4) (q := rs.length) (m := 1) (xs := qn Rk.c rs) (news := qn Rk.c [(Rk.mk t.toNat so6 ca6 us)]) (L' := fun v37 => (.row 86 2 (.slice (some ⟨g35, 0, none⟩) 1 1) 1 (qn Rk.c [(Rk.mk t.toNat so6 ca6 us)]) :: .row 42 11 (.slice so6 us.length ca6) us.length (qi us) :: .obj b (.cells (sC tz tc ts ro rc rs).toArray 73) :: .row 33 7 (.slice tz ts.length tc) ts.length (qn Ty.c ts) :: .row 86 2 (v37) (rs.length + 1) (qn Rk.c rs ++ qn Rk.c [(Rk.mk t.toNat so6 ca6 us)]) :: (others w12.drew w26 [.row 42 11 (.slice so6 us.length ca6) us.length (qi us)] ++ Y))) A 10 rfl rfl rfl rfl (jw (z := .agg #[.int .i64 0, .slice none 0 0]) (sz := 2) (by_ := 32) Tryz.underlying71 (by kernel_rfl) rfl rfl rfl M 4 rfl rfl rfl rfl (rc_own (M.has 0 rfl)) (qkj _) (by omega)) (fun _ => rfl) ?_)
   intro v37 w38 M
   replace M : Mg w0 w38 (.row 86 2 (.slice (some ⟨g35, 0, none⟩) 1 1) 1 (qn Rk.c [(Rk.mk t.toNat so6 ca6 us)]) :: .row 42 11 (.slice so6 us.length ca6) us.length (qi us) :: .obj b (.cells (sC tz tc ts ro rc rs).toArray 73) :: .row 33 7 (.slice tz ts.length tc) ts.length (qn Ty.c ts) :: .row 86 2 (v37) ((rs ++ [(Rk.mk t.toNat so6 ca6 us)]).length) (qn Rk.c (rs ++ [(Rk.mk t.toNat so6 ca6 us)])) :: (others w12.drew w26 [.row 42 11 (.slice so6 us.length ca6) us.length (qi us)] ++ Y)) := by
    have h9 := M
    rw [← jm] at h9
    rw [List.length_append]
    exact h9
   obtain ⟨so39, ca40, rfl⟩ := zx (M.has 4 rfl)
   have hln : (rs ++ [(Rk.mk t.toNat so6 ca6 us)]).length = rs.length + 1 := by rw [List.length_append]; rfl
   refine ⟨(M.sub (cn (cn (cn (cn (cn (List.nil_sublist _))))))), ?_⟩
   intro a A
   refine qe A 11 rfl rfl rfl rfl hP (M.sub (cn (cn (cn (cn (cn (List.nil_sublist _))))))) (fun w1 M => qs rfl) λa A↦?_
   refine qe (v := .pointer (some ⟨b, 1, none⟩)) A 12 rfl rfl rfl rfl hP (M.sub (cn (cn (cn (cn (cn (List.nil_sublist _))))))) (fun w1 M => qb RcD_fld_73_1 rfl rfl) λa A↦?_
   refine zd (by kernel_rfl) (vm (us := [.slice tz ts.length tc, .slice so39 ((rs ++ [(Rk.mk t.toNat so6 ca6 us)]).length) ca40]) (L' := (.row 86 2 (.slice (some ⟨g35, 0, none⟩) 1 1) 1 (qn Rk.c [(Rk.mk t.toNat so6 ca6 us)]) :: .row 42 11 (.slice so6 us.length ca6) us.length (qi us) :: .obj b (.cells #[.slice tz ts.length tc, .slice so39 ((rs ++ [(Rk.mk t.toNat so6 ca6 us)]).length) ca40] 73) :: .row 33 7 (.slice tz ts.length tc) ts.length (qn Ty.c ts) :: .row 86 2 (.slice so39 ((rs ++ [(Rk.mk t.toNat so6 ca6 us)]).length) ca40) ((rs ++ [(Rk.mk t.toNat so6 ca6 us)]).length) (qn Rk.c (rs ++ [(Rk.mk t.toNat so6 ca6 us)])) :: (others w12.drew w26 [.row 42 11 (.slice so6 us.length ca6) us.length (qi us)] ++ Y))) A M 13 rfl rfl rfl (qz rfl rfl rfl (by kernel_rfl) M 2 rfl rfl rfl) 2 rfl rfl rfl ?_)
   intro w41 M
   refine ⟨(M.sub (cn (cn (cn (cn (cn (List.nil_sublist _))))))), ?_⟩
   refine zn (by kernel_rfl) ?_
   refine hK14 _ _ (wsk fun K42 hK42 => wrl (sdm A λa A↦?_))
   refine sdo A (qs rfl) λa A↦?_
   refine sdo (v := .pointer (some ⟨b, 1, none⟩)) A (qb RcD_fld_73_1 rfl rfl) λa A↦?_
   refine sdo A (qj M RcD_is1_71 rfl 2 rfl rfl) λa A↦?_
   refine sdo A (qr Tryz.underlying71 rfl) λa A↦?_
   refine sdo (v := .int .i64 ((((rs ++ [(Rk.mk t.toNat so6 ca6 us)]).length - 1 : Nat) : Int))) A (qf rfl rfl (fun w => (vl (jq (by omega) (by omega)) w).trans (by rw [show ((((rs ++ [(Rk.mk t.toNat so6 ca6 us)]).length : Nat) : Int) - 1 : Int) = (((rs ++ [(Rk.mk t.toNat so6 ca6 us)]).length - 1 : Nat) : Int) from by omega]))) λa A↦?_
   iterate 2 refine sda A λa A↦?_
   refine qa (hK42 _ _ (wp_ret (hret _ _ (en2 A rfl (qg rfl) (qg rfl) ?_))))
   replace M : Mg w0 w41 (.obj b (.cells #[.slice tz ts.length tc, .slice so39 ((rs ++ [(Rk.mk t.toNat so6 ca6 us)]).length) ca40] 73) :: .row 33 7 (.slice tz ts.length tc) ts.length (qn Ty.c ts) :: .row 86 2 (.slice so39 ((rs ++ [(Rk.mk t.toNat so6 ca6 us)]).length) ca40) ((rs ++ [(Rk.mk t.toNat so6 ca6 us)]).length) (qn Rk.c (rs ++ [(Rk.mk t.toNat so6 ca6 us)])) :: .row 42 11 (.slice so6 us.length ca6) us.length (qi us) :: (others w12.drew w26 [.row 42 11 (.slice so6 us.length ca6) us.length (qi us)] ++ Y)) := ((((M.bring 1 rfl rfl).bring 4 rfl rfl).bring 4 rfl rfl).bring 4 rfl rfl).sub (cc (cc (cc (cc (cn (.refl _))))))
   exact ⟨us, so6, ca6, so39, ca40, _, by rw [show (rs ++ [(Rk.mk t.toNat so6 ca6 us)]).length - 1 = rs.length by omega], ⟨htr, hLu, vq⟩, M⟩
section
variable {P : Program} {w0 w : World} {L : List Ck} {l : List (Nat × Value)} {dst : Option Tmp} {ty : TypeId} {pos : String} {after : Array Edge} {guard : Option (Nat × Bool)} {v : Value} {ops : List Oper} {Q : Exit → Act → World → Prop} {a : Act} {n : Nat} {o : Oper} {S : World → Prop} {md : Region.Mode} {fuel : Nat} {listed : Array Bool}
theorem row_at0 (M : Mg w0 w L) (k : Nat) {e : TypeId} {sz n cap : Nat} {so : Option Addr} {xs : List Value} (hk : L[k]? = some (.row e sz (.slice so n cap) n xs)) (hn : 0 < n) : ∃ g, so = some ⟨g, 0, none⟩ := by
 rcases (M.has k hk).2 with ⟨_, h0⟩ | ⟨g, cap', cur, he, _⟩
 ·
  omega
 ·
  cases he; exact ⟨g, rfl⟩
theorem qjf {t e : TypeId} {sz : Nat} (hu : P.underlying t = some (.slice e)) (he : (P.info? e).map (·.size) = some sz) {x i : Operand} {so : Option Addr} {g n c k : Nat} {z : Int} (hx : ev l x = some (.slice so n c)) (hi : ev l i = some (.int .i64 z)) (hz : z = (k : Nat)) (hso : so = some ⟨g, 0, none⟩) (hk : k < n) : Does P l ⟨dst, .indexAddr t x i, ty, pos, after, guard⟩ w (.pointer (some ⟨g, k * sz, none⟩)) w := by
 subst hso
 exact xd hu he hx hi hz hk
theorem m_storeX {t : TypeId} {x y : Operand} {g q : Nat} {u : Value} {cs : List Value} {so : Option Addr} (hso : so = some ⟨g, 0, none⟩) (hx : ev l x = some (.pointer (some ⟨g, q, none⟩))) (hy : ev l y = some u) (hc : u.cells = cs.toArray) (hn : (P.info? t).map (·.size) = some cs.length) (M : Mg w0 w L) (k : Nat) {e : TypeId} {sz m cap : Nat} {xs : List Value} (hk0 : L[k]? = some (.row e sz (.slice so m cap) m xs)) (hl : q + cs.length ≤ m * sz) (h1 : cs.all Value.oneCell' = true) : Sets P l ⟨dst, .store t x y, ty, pos, after, guard⟩ w (w.setCells g q cs) := by
 subst hso
 exact yg hx hy hc hn M k hk0 hl h1
theorem g_storeX (A : Sl a n l) (M : Mg w0 w L) (i : Nat) (hi : ops[i]? = some o) (hg : zb l ops o = true) (hdst : o.dst = none) {g q m cap : Nat} {cs xs us : List Value} {e : TypeId} {sz : Nat} {so : Option Addr} (he : Sets P l o w (w.setCells g q cs)) (hso : so = some ⟨g, 0, none⟩) (k : Nat) (hk0 : L[k]? = some (.row e sz (.slice so m cap) m xs)) (hus : over xs q cs = us) {L' : List Ck} (hL : L.set k (.row e sz (.slice so m cap) m us) = L')
  (hk : ∀ w', Mg w0 w' L' → S w' ∧ wpAnyH P md ops.toArray Q S fuel (listed.setIfInBounds i true) a w') : wpOp P ops.toArray Q i (fun a' w' => S w' ∧ wpAnyH P md ops.toArray Q S fuel (listed.setIfInBounds i true) a' w') a w := by
 subst hso
 exact g_storeRD A M i hi hg hdst he k hk0 hus hL hk
end
set_option maxHeartbeats 2000000 in
theorem set_ok {w0 w : World} {b tc rc : Nat} {tz ro : Option Addr} {ts : List Ty} {rs : List Rk} {Y : List Ck} (hY : zv Y) (hW : WS (ts.map Ty.k) (rs.map Rk.k)) {x : Rk} (hsr : ∀ w1, Mg w0 w1 (.obj b (.cells (sC tz tc ts ro rc rs).toArray 73) :: .row 33 7 (.slice tz ts.length tc) ts.length (qn Ty.c ts) :: .row 86 2 (.slice ro rs.length rc) rs.length (qn Rk.c rs) :: .row 42 11 (.slice x.vo x.vs.length x.vc) x.vs.length (qi x.vs) :: Y) → SR w1 b tz tc ts ro rc rs) (hM0 : Mg w0 w (.obj b (.cells (sC tz tc ts ro rc rs).toArray 73) :: .row 33 7 (.slice tz ts.length tc) ts.length (qn Ty.c ts) :: .row 86 2 (.slice ro rs.length rc) rs.length (qn Rk.c rs) :: .row 42 11 (.slice x.vo x.vs.length x.vc) x.vs.length (qi x.vs) :: Y)) {v : Dt} (hv : ∀ w1, Mg w0 w1 Y → v.rd w1) (hvb : v.tr.bulk ≤ 1000000000) (hT : ∀ w1, Mg w0 w1 Y → Tabs8 w1) {r t i : Int} (hx : rs[r.toNat]? = some x) (hpl0 : (plS (ts.map Ty.k) (rs.map Rk.k) r t i).2 = 0) (hso : jf zp v.tr = true) (hmu : ((((ts.map Ty.k)[t.toNat]?).map fun k => (k.ms[i.toNat]?).getD false).getD false) = true) : Calls Tryz.prog 16 #[.pointer (some ⟨b, 0, none⟩), .int .i64 r, .int .i64 t, .int .i64 i, .agg (v.d.cells v.ts.length).toArray] w fun e w' => ∃ (v2 : Dt) (F : List Ck), e = .returned (.int .i64 0) ∧ (v2.tr = v.tr ∧ Lives F v2 ∧ zv F) ∧ Mg w0 w' (.obj b (.cells (sC tz tc ts ro rc rs).toArray 73) :: .row 33 7 (.slice tz ts.length tc) ts.length (qn Ty.c ts) :: .row 86 2 (.slice ro rs.length rc) rs.length (qn Rk.c rs) :: .row 42 11 (.slice x.vo x.vs.length x.vc) x.vs.length (qi (x.vs.set ((plS (ts.map Ty.k) (rs.map Rk.k) r t i).1.toNat) v2)) :: (F ++ Y)) := by
 have hkl := hW.kl
 have hrl := hW.rl
 rw [List.length_map] at hkl hrl
 obtain ⟨x9, k9, hx9, hk9, p1, p2, p3, p4, p5, p6, p7, p8, p9, p10⟩ := pl_in hW hpl0
 rw [List.length_map] at p2 p4
 obtain rfl : x9 = x.k := Option.some.inj (hx9.symm.trans (xf hx))
 rw [show x.k.2.length = x.vs.length from List.length_map _] at p9 p10
 obtain ⟨gx, hgx⟩ := row_at0 hM0 3 rfl (show 0 < x.vs.length by omega)
 have M : Mg w0 w (.obj b (.cells (sC tz tc ts ro rc rs).toArray 73) :: .row 33 7 (.slice tz ts.length tc) ts.length (qn Ty.c ts) :: .row 86 2 (.slice ro rs.length rc) rs.length (qn Rk.c rs) :: .row 42 11 (.slice x.vo x.vs.length x.vc) x.vs.length (qi x.vs) :: Y) := hM0
 refine qp (l := [(0, .pointer (some ⟨b, 0, none⟩)), (1, .int .i64 r), (2, .int .i64 t), (3, .int .i64 i), (4, .agg (v.d.cells v.ts.length).toArray)]) Tryz.func16 rfl Tryz.ntmps16 rfl rfl ?_
 intro Q hret hnorm hP a A
 refine wsk fun K1 hK1 => wrl (zw (vs := (v.d.cells v.ts.length)) (t := 42) A M rfl rfl rfl pg (zk rfl rfl) (by decide) ?_)
 intro g2 w3 M a A
 refine sda A λa A↦?_
 refine qa (hK1 _ _ (wsk fun K4 hK4 => wrl ?_))
 iterate 4 refine sdm A λa A↦?_
 refine gcl A M (ef rfl rfl) ((hpl0 ▸ un (hsr _ ((M.dropn 1))) hW)) fun w6 hb5 M a A => ?_
 refine sdm A λa A↦?_
 iterate 2 refine sdo A (ze (vs := [.int .i64 ((plS (ts.map Ty.k) (rs.map Rk.k) r t i).1), .int .i64 0]) rfl rfl) λa A↦?_
 iterate 2 refine sda A λa A↦?_
 refine qa (hK4 _ _ (wsk fun K7 hK7 => wp_block (wsk fun K8 hK8 => wrl (sdm A λa A↦?_))))
 refine sdo (v := .bool false) A (qf rfl rfl (fun w => by kernel_rfl)) λa A↦?_
 refine sda A λa A↦?_
 refine qa (hK8 _ _ (wp_cond_false (A.ev rfl) ?_))
 refine wsk fun K9 hK9 => wrl (sdo A (je M RcD_isS_42 rfl 0 rfl (cs := (v.d.cells v.ts.length)) rfl rfl) λa A↦?_)
 refine gcl A M (ef rfl rfl) ((hso ▸ sound_any (t := v) (hv _ (M.dropn 5)) (hT _ (M.dropn 5)))) fun w11 hb10 M a A => ?_
 refine sdo (v := .bool false) A (zm rfl jb) λa A↦?_
 refine sda A λa A↦?_
 refine qa (hK9 _ _ (wp_cond_false (A.ev rfl) ?_))
 refine wsk fun K12 hK12 => wrl (sdm A λa A↦?_)
 refine sdo A (qs rfl) λa A↦?_
 refine sdo (v := .pointer (some ⟨b, 0, none⟩)) A (qb RcD_fld_73_0 rfl rfl) λa A↦?_
 refine sdo A (qj M RcD_is1_26 rfl 1 rfl rfl) λa A↦?_
 refine sdm A λa A↦?_
 obtain ⟨ty13, bt14, ot15, it16, mt17, rt18, lt19, Ht20⟩ := ((hsr _ ((M.dropn 1)))).T.at_ (i := t.toNat) (by omega)
 refine sdo (v := .pointer (some ⟨bt14, ot15 + t.toNat * 7, none⟩)) A (zg (k := t.toNat) Tryz.underlying26 (by kernel_rfl) rfl rfl (by first | rfl | omega) lt19 (by omega)) λa A↦?_
 refine sdo (v := .pointer (some ⟨bt14, ot15 + t.toNat * 7 + 3, none⟩)) A (qb RcD_fld_33_3 rfl rfl) λa A↦?_
 refine sdo A (qci (j := 3) qkh (by decide) M 2 rfl it16 lt19 rfl RcD_is1_31 rfl (by omega)) λa A↦?_
 refine sdm A λa A↦?_
 have hml := hW.ml _ (List.mem_of_getElem? (jc it16))
 rw [show ty13.k.fs.length = ty13.fs.length from rfl, show ty13.k.ms.length = ty13.ms.length from rfl] at hml
 obtain rfl : k9 = ty13.k := Option.some.inj (hk9.symm.trans (jc it16))
 rw [show ty13.k.fs.length = ty13.fs.length from rfl] at p6
 obtain ⟨bx21, ox22, sx23, hs24, hc25, hi26⟩ := E.Rl.at_ rt18.m (i := i.toNat) (by omega)
 rw [hk9] at hmu
 replace hmu : (ty13.ms[i.toNat]?).getD false = true := hmu
 rw [hi26] at hmu
 obtain rfl : sx23 = true := hmu
 refine sdo (v := .pointer (some ⟨bx21, ox22 + i.toNat, none⟩)) A (zl (k := i.toNat) Tryz.underlying31 (by kernel_rfl) rfl rfl (by omega) hs24 (by omega)) λa A↦?_
 refine sdo A (ki hc25 RcD_is1_4 rfl) λa A↦?_
 refine sdo (v := .bool false) A (zm rfl jb) λa A↦?_
 refine sda A λa A↦?_
 refine qa (hK12 _ _ (wp_cond_false (A.ev rfl) ?_))
 refine wp_skip (hK7 _ _ (wsk fun K27 hK27 => jn (S := fun w1 => Mg w0 w1 (.obj g2 (.cells (v.d.cells v.ts.length).toArray 42) :: .obj b (.cells (sC tz tc ts ro rc rs).toArray 73) :: .row 86 2 (.slice ro rs.length rc) rs.length (qn Rk.c rs) :: [])) (by kernel_rfl) ?_))
 replace M := M.drew
 refine qe A 0 rfl rfl rfl rfl hP (M.sub (cc (cc (cn (cc (cn (List.nil_sublist _))))))) (fun w1 M => qt rfl) λa A↦?_
 refine qe A 1 rfl rfl rfl rfl hP (M.sub (cc (cc (cn (cc (cn (List.nil_sublist _))))))) (fun w1 M => qs rfl) λa A↦?_
 refine qe (v := .pointer (some ⟨b, 1, none⟩)) A 2 rfl rfl rfl rfl hP (M.sub (cc (cc (cn (cc (cn (List.nil_sublist _))))))) (fun w1 M => qb RcD_fld_73_1 rfl rfl) λa A↦?_
 refine qe A 3 rfl rfl rfl rfl hP (M.sub (cc (cc (cn (cc (cn (List.nil_sublist _))))))) (fun w1 M => qj M RcD_is1_71 rfl 1 rfl rfl) λa A↦?_
 refine qe A 4 rfl rfl rfl rfl hP (M.sub (cc (cc (cn (cc (cn (List.nil_sublist _))))))) (fun w1 M => qt rfl) λa A↦?_
 obtain ⟨rk28, br29, or30, ir31, mr32, rr33, lr34, Hr35⟩ := ((hsr _ ((M.dropn 1)))).R.at_ (i := r.toNat) (by omega)
 obtain rfl : x = rk28 := Option.some.inj (hx.symm.trans ir31)
 refine qe (v := .pointer (some ⟨br29, or30 + r.toNat * 2, none⟩)) A 5 rfl rfl rfl rfl hP (M.sub (cc (cc (cn (cc (cn (List.nil_sublist _))))))) (fun w1 M => zg (k := r.toNat) Tryz.underlying71 (by kernel_rfl) rfl rfl (by first | rfl | omega) lr34 (by omega)) λa A↦?_
 refine qe (v := .pointer (some ⟨br29, or30 + r.toNat * 2 + 1, none⟩)) A 6 rfl rfl rfl rfl hP (M.sub (cc (cc (cn (cc (cn (List.nil_sublist _))))))) (fun w1 M => qb RcD_fld_86_1 rfl rfl) λa A↦?_
 refine qe A 7 rfl rfl rfl rfl hP (M.sub (cc (cc (cn (cc (cn (List.nil_sublist _))))))) (fun w1 M => qci (j := 1) qgb (by decide) M 2 rfl ir31 lr34 rfl RcD_is1_34 rfl (by omega)) λa A↦?_
 refine qe A 8 rfl rfl rfl rfl hP (M.sub (cc (cc (cn (cc (cn (List.nil_sublist _))))))) (fun w1 M => qt rfl) λa A↦?_
 refine qe A 9 rfl rfl rfl rfl hP (M.sub (cc (cc (cn (cc (cn (List.nil_sublist _))))))) (fun w1 M => je M RcD_isS_42 rfl 0 rfl (cs := (v.d.cells v.ts.length)) rfl rfl) λa A↦?_
 refine zd (by kernel_rfl) (zy A 10 rfl rfl rfl rfl (za rfl rfl (fun w => by kernel_rfl)) (vp v (hv _ (M.dropn 5)) hvb) ?_)
 rintro _ w37 ⟨v2, rfl, ⟨hr2, ho2, ht2⟩, hb36⟩
 have hL2 := qke hr2 ho2
 replace M : Mg w0 w37 (.obj g2 (.cells (v.d.cells v.ts.length).toArray 42) :: .obj b (.cells (sC tz tc ts ro rc rs).toArray 73) :: .row 33 7 (.slice tz ts.length tc) ts.length (qn Ty.c ts) :: .row 86 2 (.slice ro rs.length rc) rs.length (qn Rk.c rs) :: .row 42 11 (.slice x.vo x.vs.length x.vc) x.vs.length (qi x.vs) :: (made w11.drew w37 ++ Y)) := M.freezeAt 5 (qh (by simp) (qh (by simp) (qh (by simp) (qh (by simp) (qh (by simp) hY))))) hb36
 refine ⟨_, rfl, (M.sub (cc (cc (cn (cc (cn (List.nil_sublist _))))))), ?_⟩
 intro a A
 refine qe (v := .pointer (some ⟨gx, (plS (ts.map Ty.k) (rs.map Rk.k) r t i).1.toNat * 11, none⟩)) A 11 rfl rfl rfl rfl hP (M.sub (cc (cc (cn (cc (cn (List.nil_sublist _))))))) (fun w1 M => qjf (k := (plS (ts.map Ty.k) (rs.map Rk.k) r t i).1.toNat) Tryz.underlying34 (by kernel_rfl) rfl rfl (by omega) hgx (by omega)) λa A↦?_
 refine zd (by kernel_rfl) (g_storeX (cs := v2.d.cells v2.ts.length) (us := qi (x.vs.set ((plS (ts.map Ty.k) (rs.map Rk.k) r t i).1.toNat) v2)) (L' := (.obj g2 (.cells (v.d.cells v.ts.length).toArray 42) :: .obj b (.cells (sC tz tc ts ro rc rs).toArray 73) :: .row 33 7 (.slice tz ts.length tc) ts.length (qn Ty.c ts) :: .row 86 2 (.slice ro rs.length rc) rs.length (qn Rk.c rs) :: .row 42 11 (.slice x.vo x.vs.length x.vc) x.vs.length (qi (x.vs.set ((plS (ts.map Ty.k) (rs.map Rk.k) r t i).1.toNat) v2)) :: (made w11.drew w37 ++ Y))) A M 12 rfl rfl rfl (m_storeX hgx rfl rfl rfl (by kernel_rfl) M 4 rfl (by show _ + 11 ≤ _; omega) (qec v2)) hgx 4 rfl (qib (by omega) rfl) rfl ?_)
 intro w38 M
 refine ⟨(M.sub (cc (cc (cn (cc (cn (List.nil_sublist _))))))), ?_⟩
 refine zn (by kernel_rfl) ?_
 refine hK27 _ _ (wsk fun K39 hK39 => wrl (sda A λa A↦?_))
 refine qa (hK39 _ _ (wp_ret (hret _ _ (en1 A rfl (qg rfl) ?_))))
 replace M : Mg w0 w38 (.obj b (.cells (sC tz tc ts ro rc rs).toArray 73) :: .row 33 7 (.slice tz ts.length tc) ts.length (qn Ty.c ts) :: .row 86 2 (.slice ro rs.length rc) rs.length (qn Rk.c rs) :: .row 42 11 (.slice x.vo x.vs.length x.vc) x.vs.length (qi (x.vs.set ((plS (ts.map Ty.k) (rs.map Rk.k) r t i).1.toNat) v2)) :: (made w11.drew w37 ++ Y)) := ((((M.bring 4 rfl rfl).bring 4 rfl rfl).bring 4 rfl rfl).bring 4 rfl rfl).sub (cc (cc (cc (cc (cn (.refl _))))))
 exact ⟨v2, _, rfl, ⟨ht2, hL2, made_nob⟩, M⟩
theorem RcE_is1_26 : Is1 Tryz.prog 26 := ⟨⟨_, Tryz.underlying26, rfl⟩, by kernel_rfl⟩
theorem RcE_is1_3 : Is1 Tryz.prog 3 := ⟨⟨_, Tryz.underlying3, rfl⟩, by kernel_rfl⟩
theorem RcE_is1_30 : Is1 Tryz.prog 30 := ⟨⟨_, Tryz.underlying30, rfl⟩, by kernel_rfl⟩
theorem RcE_is1_31 : Is1 Tryz.prog 31 := ⟨⟨_, Tryz.underlying31, rfl⟩, by kernel_rfl⟩
theorem RcE_is1_4 : Is1 Tryz.prog 4 := ⟨⟨_, Tryz.underlying4, rfl⟩, by kernel_rfl⟩
theorem RcE_is1_71 : Is1 Tryz.prog 71 := ⟨⟨_, Tryz.underlying71, rfl⟩, by kernel_rfl⟩
theorem RcE_is1_9 : Is1 Tryz.prog 9 := ⟨⟨_, Tryz.underlying9, rfl⟩, by kernel_rfl⟩
theorem RcE_fld_33_1 : FieldAt Tryz.prog 33 1 1 := ⟨_, _, Tryz.underlying33, rfl, rfl, by kernel_rfl⟩
theorem RcE_fld_33_2 : FieldAt Tryz.prog 33 2 2 := ⟨_, _, Tryz.underlying33, rfl, rfl, by kernel_rfl⟩
theorem RcE_fld_33_3 : FieldAt Tryz.prog 33 3 3 := ⟨_, _, Tryz.underlying33, rfl, rfl, by kernel_rfl⟩
theorem RcE_fld_33_4 : FieldAt Tryz.prog 33 4 4 := ⟨_, _, Tryz.underlying33, rfl, rfl, by kernel_rfl⟩
theorem RcE_fld_33_6 : FieldAt Tryz.prog 33 6 6 := ⟨_, _, Tryz.underlying33, rfl, rfl, by kernel_rfl⟩
theorem RcE_fld_73_0 : FieldAt Tryz.prog 73 0 0 := ⟨_, _, Tryz.underlying73, rfl, rfl, by kernel_rfl⟩
theorem RcE_fld_73_1 : FieldAt Tryz.prog 73 1 1 := ⟨_, _, Tryz.underlying73, rfl, rfl, by kernel_rfl⟩
theorem RcE_isS_33 : IsS Tryz.prog 33 7 := ⟨⟨_, Tryz.underlying33⟩, by kernel_rfl⟩
theorem RcE_isS_42 : IsS Tryz.prog 42 11 := ⟨⟨_, Tryz.underlying42⟩, by kernel_rfl⟩
set_option maxHeartbeats 2000000 in
theorem type_no {w : World} {b tc rc : Nat} {tz ro : Option Addr} {ts : List Ty} {rs : List Rk} (V : SR w b tz tc ts ro rc rs) (hW : WS (ts.map Ty.k) (rs.map Rk.k)) {u : Ty} (hU : TyR w u) (hul : u.fs.length ≤ 2000000) (hum : u.ms.length ≤ 2000000) (huz : ∀ s ∈ u.fs, s.size ≤ 281474976710656) (hno : (tyS (ts.map Ty.k) u.k).2.2 = false) : Calls Tryz.prog 8 #[.pointer (some ⟨b, 0, none⟩), .agg u.c.toArray] w fun e w' => e = .returned (.tuple #[.int .i64 (tyS (ts.map Ty.k) u.k).1, .int .i64 (tyS (ts.map Ty.k) u.k).2.1]) ∧ Below w.heap.size w w' := by
 have hkl := hW.kl
 have hrl := hW.rl
 rw [List.length_map] at hkl hrl
 have M : Mg w w ([]) := Mg.start w
 refine qp (l := [(0, .pointer (some ⟨b, 0, none⟩)), (1, .agg u.c.toArray)]) Tryz.func8 rfl Tryz.ntmps8 rfl rfl ?_
 intro Q hret hnorm hP a A
 refine wsk fun K1 hK1 => wrl (zw (vs := u.c) (t := 33) A M rfl rfl rfl pg (zk rfl rfl) (by decide) ?_)
 intro g2 w3 M a A
 iterate 2 refine sda A λa A↦?_
 refine qa (hK1 _ _ (wsk fun K4 hK4 => wsk fun K5 hK5 => wrl (sdm A λa A↦?_)))
 refine sdo (v := .bool false) A (qf rfl rfl (fun w => by kernel_rfl)) λa A↦?_
 iterate 2 refine sdm A λa A↦?_
 refine sdo A (je M RcE_isS_33 rfl 0 rfl (cs := u.c) rfl rfl) λa A↦?_
 rcases tf (gdB ts.length u.k) with hb6 | hb6
 ·
  refine gcl A M (ef rfl rfl) (um (V.below M.bel) hW (hU.below M.bel) hul huz hb6) fun w8 hb7 M a A => ?_
  refine sdo (v := .bool false) A (zm rfl jb) λa A↦?_
  refine sdk (v := .bool false) A λa A↦?_
  refine qa (hK5 _ _ (wp_cond_false (A.ev rfl) ?_))
  refine wp_skip (hK4 _ _ (wsk fun K9 hK9 => wsk fun K10 hK10 => wrl (sdm A λa A↦?_)))
  refine sdo (v := .pointer (some ⟨g2, 6, none⟩)) A (qb RcE_fld_33_6 rfl rfl) λa A↦?_
  refine sdo A (qj M RcE_is1_9 rfl 0 rfl rfl) λa A↦?_
  refine gcl A M (ef rfl rfl) (ut (V.below M.bel) hW) fun w12 hb11 M a A => ?_
  refine sda A λa A↦?_
  refine qa (hK10 _ _ (wsk fun K13 hK13 => wrl (sdm A λa A↦?_)))
  rcases tf (decide (0 ≤ uix (ts.map Ty.k) u.ui)) with hb14 | hb14
  ·
   have hb14' := of_decide_eq_true hb14
   refine sdc A zr hb14 λa A↦?_
   refine qa (hK13 _ _ (wp_cond_true (A.ev rfl) ?_))
   refine wsk fun K15 hK15 => wrl ?_
   iterate 2 refine sdm A λa A↦?_
   refine sdo A (je M RcE_isS_33 rfl 0 rfl (cs := u.c) rfl rfl) λa A↦?_
   obtain ⟨y, hy⟩ : ∃ y, ts[(uix (ts.map Ty.k) u.ui).toNat]? = some y := ⟨_, List.getElem?_eq_getElem (show (uix (ts.map Ty.k) u.ui).toNat < ts.length by have := uix_lt (ts.map Ty.k) u.ui; rw [List.length_map] at this; omega)⟩
   refine gcl A M (ef rfl rfl) (again_any (V.below M.bel) hW (hU.below M.bel) hul hum (by omega) (by have := uix_lt (ts.map Ty.k) u.ui; rw [List.length_map] at this; omega) hy) fun w17 hb16 M a A => ?_
   iterate 2 refine sdo A (ze (vs := [.int .i64 ((if xg y.k u.k = true then uix (ts.map Ty.k) u.ui else 0)), .int .i64 ((if xg y.k u.k = true then 0 else 8))]) rfl rfl) λa A↦?_
   iterate 2 refine sda A λa A↦?_
   refine qa (hK15 _ _ (wp_ret (hret _ _ (en2 A rfl (qg rfl) (qg rfl) ?_))))
   refine ⟨?_, M.bel⟩
   rw [tyS_old (show gdB (ts.map Ty.k).length u.k = true by rw [List.length_map]; exact hb6) (show 0 ≤ uix (ts.map Ty.k) u.k.ui by show 0 ≤ uix (ts.map Ty.k) u.ui; omega) (jc hy)]
   rcases tf (xg y.k u.k) with hq | hq
   ·
    rw [if_pos hq, if_pos hq, if_pos hq]; rfl
   ·
    rw [if_neg (by rw [hq]; decide), if_neg (by rw [hq]; decide), if_neg (by rw [hq]; decide)]
  ·
   have hb14' := of_decide_eq_false hb14
   refine sdc A zr hb14 λa A↦?_
   refine qa (hK13 _ _ (wp_cond_false (A.ev rfl) ?_))
   refine wp_skip (hK9 _ _ (wsk fun K18 hK18 => wp_block (wsk fun K19 hK19 => ?_)))
   obtain ⟨hg1, hg2, hg3, hg4⟩ := gd_t hb6
   rw [show u.k.par = u.par from rfl] at hg3 hg4
   have hc16 := hW.cnt16 (t := u.par) (by rw [List.length_map]; exact hg4)
   refine jn (S := fun w1 => Mg w w1 (.obj g2 (.cells u.c.toArray 33) :: [])) (by kernel_rfl) ?_
   replace M := M.drew
   refine qe (v := .pointer (some ⟨g2, 1, none⟩)) A 0 rfl rfl rfl rfl hP (M.sub (cc (List.nil_sublist _))) (fun w1 M => qb RcE_fld_33_1 rfl rfl) λa A↦?_
   refine qe A 1 rfl rfl rfl rfl hP (M.sub (cc (List.nil_sublist _))) (fun w1 M => qj M RcE_is1_3 rfl 0 rfl rfl) λa A↦?_
   rcases tf ((u.par != -1)) with hb20 | hb20
   ·
    have hb20' := bne_iff_ne.1 hb20
    refine qe (v := .bool true) A 2 rfl rfl rfl rfl hP (M.sub (cc (List.nil_sublist _))) (fun w1 M => qf rfl rfl (fun w => (ja w).trans (by rw [hb20]))) λa A↦?_
    refine qe A 3 rfl rfl rfl rfl hP (M.sub (cc (List.nil_sublist _))) (fun w1 M => qt rfl) λa A↦?_
    refine qe A 4 rfl rfl rfl rfl hP (M.sub (cc (List.nil_sublist _))) (fun w1 M => qt rfl) λa A↦?_
    refine qe A 5 rfl rfl rfl rfl hP (M.sub (cc (List.nil_sublist _))) (fun w1 M => qs rfl) λa A↦?_
    refine qe (v := .pointer (some ⟨b, 0, none⟩)) A 6 rfl rfl rfl rfl hP (M.sub (cc (List.nil_sublist _))) (fun w1 M => qb RcE_fld_73_0 rfl rfl) λa A↦?_
    refine qe A 7 rfl rfl rfl rfl hP (M.sub (cc (List.nil_sublist _))) (fun w1 M => E.m_loadX M V.c0 RcE_is1_26 rfl) λa A↦?_
    refine qe (v := .pointer (some ⟨g2, 1, none⟩)) A 8 rfl rfl rfl rfl hP (M.sub (cc (List.nil_sublist _))) (fun w1 M => qb RcE_fld_33_1 rfl rfl) λa A↦?_
    refine qe A 9 rfl rfl rfl rfl hP (M.sub (cc (List.nil_sublist _))) (fun w1 M => qj M RcE_is1_3 rfl 0 rfl rfl) λa A↦?_
    obtain ⟨ty21, bt22, ot23, it24, mt25, rt26, lt27, Ht28⟩ := V.T.at_ (i := (u.par).toNat) (by omega)
    refine qe (v := .pointer (some ⟨bt22, ot23 + (u.par).toNat * 7, none⟩)) A 10 rfl rfl rfl rfl hP (M.sub (cc (List.nil_sublist _))) (fun w1 M => zg (k := (u.par).toNat) Tryz.underlying26 (by kernel_rfl) rfl rfl (by first | rfl | omega) lt27 (by omega)) λa A↦?_
    refine qe (v := .pointer (some ⟨bt22, ot23 + (u.par).toNat * 7 + 4, none⟩)) A 11 rfl rfl rfl rfl hP (M.sub (cc (List.nil_sublist _))) (fun w1 M => qb RcE_fld_33_4 rfl rfl) λa A↦?_
    refine qe A 12 rfl rfl rfl rfl hP (M.sub (cc (List.nil_sublist _))) (fun w1 M => jo (j := 4) M Ht28 RcE_is1_4 rfl rfl rfl) λa A↦?_
    refine qe (v := .bool ty21.sl) A 13 rfl rfl rfl rfl hP (M.sub (cc (List.nil_sublist _))) (fun w1 M => zu rfl rfl rfl rfl) λa A↦?_
    refine qe A 14 rfl rfl rfl rfl hP (M.sub (cc (List.nil_sublist _))) (fun w1 M => zf rfl) λa A↦?_
    refine zn (by kernel_rfl) ?_
    refine hK19 _ _ ?_
    refine wp_cond_split (t := ty21.sl) (A.ev rfl) (fun hc29 => ?_) (fun hc29 => ?_)
    ·
     refine wsk fun K30 hK30 => wrl ?_
     iterate 2 refine sda A λa A↦?_
     refine qa (hK30 _ _ (wp_ret (hret _ _ (en2 A rfl (qg rfl) (qg rfl) ?_))))
     exact ⟨by rw [tyS_seal (show gdB (ts.map Ty.k).length u.k = true by rw [List.length_map]; exact hb6) (show ¬ 0 ≤ uix (ts.map Ty.k) u.k.ui by show ¬ 0 ≤ uix (ts.map Ty.k) u.ui; omega) (show slP (ts.map Ty.k) u.k.par = true from ((uh (show 0 ≤ u.par by omega) (jc it24)).trans hc29))], M.bel⟩
    ·
     refine wsk fun K31 hK31 => jn (S := fun w1 => Mg w w1 (.obj g2 (.cells u.c.toArray 33) :: [])) (by kernel_rfl) ?_
     replace M := M.drew
     refine qe A 0 rfl rfl rfl rfl hP (M.sub (cc (List.nil_sublist _))) (fun w1 M => qt rfl) λa A↦?_
     refine qe (v := .pointer (some ⟨g2, 1, none⟩)) A 1 rfl rfl rfl rfl hP (M.sub (cc (List.nil_sublist _))) (fun w1 M => qb RcE_fld_33_1 rfl rfl) λa A↦?_
     refine qe A 2 rfl rfl rfl rfl hP (M.sub (cc (List.nil_sublist _))) (fun w1 M => qj M RcE_is1_3 rfl 0 rfl rfl) λa A↦?_
     refine qe (v := .pointer (some ⟨g2, 2, none⟩)) A 4 rfl rfl rfl rfl hP (M.sub (cc (List.nil_sublist _))) (fun w1 M => qb RcE_fld_33_2 rfl rfl) λa A↦?_
     refine qe A 5 rfl rfl rfl rfl hP (M.sub (cc (List.nil_sublist _))) (fun w1 M => qj M RcE_is1_30 rfl 0 rfl rfl) λa A↦?_
     refine qe (v := .int .i64 (((u.fs.length : Nat) : Int))) A 6 rfl rfl rfl rfl hP (M.sub (cc (List.nil_sublist _))) (fun w1 M => qr Tryz.underlying30 rfl) λa A↦?_
     refine zd (by kernel_rfl) (zy A 3 rfl rfl rfl rfl (za rfl rfl (fun w => by kernel_rfl)) (xl (V.below M.bel) hW (by omega) (by omega)) ?_)
     rintro _ w33 ⟨rfl, hb32⟩
     replace M := M.call hb32
     refine ⟨_, rfl, (M.sub (cc (List.nil_sublist _))), ?_⟩
     intro a A
     refine qe (v := .int .i64 (((cnt (ts.map Ty.k) u.par + u.fs.length : Nat) : Int))) A 7 rfl rfl rfl rfl hP (M.sub (cc (List.nil_sublist _))) (fun w1 M => qf rfl rfl (fun w => (jk (jq (by omega) (by omega)) w).trans (by rw [show (((cnt (ts.map Ty.k) u.par : Nat) : Int) + ((u.fs.length : Nat) : Int) : Int) = ((cnt (ts.map Ty.k) u.par + u.fs.length : Nat) : Int) from by omega]))) λa A↦?_
     rcases tf (decide (16 < ((cnt (ts.map Ty.k) u.par + u.fs.length : Nat) : Int))) with hb34 | hb34
     ·
      have hb34' := of_decide_eq_true hb34
      refine qe (v := .bool true) A 8 rfl rfl rfl rfl hP (M.sub (cc (List.nil_sublist _))) (fun w1 M => qf rfl rfl (fun w => (jx w).trans (by rw [hb34]))) λa A↦?_
      refine qe A 9 rfl rfl rfl rfl hP (M.sub (cc (List.nil_sublist _))) (fun w1 M => qt rfl) λa A↦?_
      refine zt A 10 rfl rfl rfl rfl hP (M.sub (cc (List.nil_sublist _))) λa A↦?_
      refine zt A 11 rfl rfl rfl rfl hP (M.sub (cc (List.nil_sublist _))) λa A↦?_
      refine zt A 12 rfl rfl rfl rfl hP (M.sub (cc (List.nil_sublist _))) λa A↦?_
      refine zt A 13 rfl rfl rfl rfl hP (M.sub (cc (List.nil_sublist _))) λa A↦?_
      refine zt A 14 rfl rfl rfl rfl hP (M.sub (cc (List.nil_sublist _))) λa A↦?_
      refine zt A 15 rfl rfl rfl rfl hP (M.sub (cc (List.nil_sublist _))) λa A↦?_
      refine qe (v := .bool true) A 16 rfl rfl rfl rfl hP (M.sub (cc (List.nil_sublist _))) (fun w1 M => zu rfl rfl rfl rfl) λa A↦?_
      refine qe A 17 rfl rfl rfl rfl hP (M.sub (cc (List.nil_sublist _))) (fun w1 M => zf rfl) λa A↦?_
      refine zn (by kernel_rfl) ?_
      refine hK31 _ _ (wp_cond_true (A.ev rfl) ?_)
      refine wsk fun K35 hK35 => wrl ?_
      iterate 2 refine sda A λa A↦?_
      refine qa (hK35 _ _ (wp_ret (hret _ _ (en2 A rfl (qg rfl) (qg rfl) ?_))))
      exact ⟨by rw [kj (show gdB (ts.map Ty.k).length u.k = true by rw [List.length_map]; exact hb6) (show ¬ 0 ≤ uix (ts.map Ty.k) u.k.ui by show ¬ 0 ≤ uix (ts.map Ty.k) u.ui; omega) (show slP (ts.map Ty.k) u.k.par = false from ((uh (show 0 ≤ u.par by omega) (jc it24)).trans hc29)) (show ¬ (cnt (ts.map Ty.k) u.par + u.fs.length ≤ 16 ∧ (ts.map Ty.k).length < 4096) by rw [List.length_map]; omega)], M.bel⟩
     ·
      have hb34' := of_decide_eq_false hb34
      refine qe (v := .bool false) A 8 rfl rfl rfl rfl hP (M.sub (cc (List.nil_sublist _))) (fun w1 M => qf rfl rfl (fun w => (jx w).trans (by rw [hb34]))) λa A↦?_
      refine qe A 9 rfl rfl rfl rfl hP (M.sub (cc (List.nil_sublist _))) (fun w1 M => qt rfl) λa A↦?_
      refine qe A 10 rfl rfl rfl rfl hP (M.sub (cc (List.nil_sublist _))) (fun w1 M => qt rfl) λa A↦?_
      refine qe A 11 rfl rfl rfl rfl hP (M.sub (cc (List.nil_sublist _))) (fun w1 M => qs rfl) λa A↦?_
      refine qe (v := .pointer (some ⟨b, 0, none⟩)) A 12 rfl rfl rfl rfl hP (M.sub (cc (List.nil_sublist _))) (fun w1 M => qb RcE_fld_73_0 rfl rfl) λa A↦?_
      refine qe A 13 rfl rfl rfl rfl hP (M.sub (cc (List.nil_sublist _))) (fun w1 M => E.m_loadX M V.c0 RcE_is1_26 rfl) λa A↦?_
      refine qe (v := .int .i64 (((ts.length : Nat) : Int))) A 14 rfl rfl rfl rfl hP (M.sub (cc (List.nil_sublist _))) (fun w1 M => qr Tryz.underlying26 rfl) λa A↦?_
      rcases tf (decide (4096 ≤ ((ts.length : Nat) : Int))) with hb36 | hb36
      ·
       have hb36' := of_decide_eq_true hb36
       refine qe (v := .bool true) A 15 rfl rfl rfl rfl hP (M.sub (cc (List.nil_sublist _))) (fun w1 M => qf rfl rfl (fun w => (zr w).trans (by rw [hb36]))) λa A↦?_
       refine qe (v := .bool true) A 16 rfl rfl rfl rfl hP (M.sub (cc (List.nil_sublist _))) (fun w1 M => zu rfl rfl rfl rfl) λa A↦?_
       refine qe A 17 rfl rfl rfl rfl hP (M.sub (cc (List.nil_sublist _))) (fun w1 M => zf rfl) λa A↦?_
       refine zn (by kernel_rfl) ?_
       refine hK31 _ _ (wp_cond_true (A.ev rfl) ?_)
       refine wsk fun K37 hK37 => wrl ?_
       iterate 2 refine sda A λa A↦?_
       refine qa (hK37 _ _ (wp_ret (hret _ _ (en2 A rfl (qg rfl) (qg rfl) ?_))))
       exact ⟨by rw [kj (show gdB (ts.map Ty.k).length u.k = true by rw [List.length_map]; exact hb6) (show ¬ 0 ≤ uix (ts.map Ty.k) u.k.ui by show ¬ 0 ≤ uix (ts.map Ty.k) u.ui; omega) (show slP (ts.map Ty.k) u.k.par = false from ((uh (show 0 ≤ u.par by omega) (jc it24)).trans hc29)) (show ¬ (cnt (ts.map Ty.k) u.par + u.fs.length ≤ 16 ∧ (ts.map Ty.k).length < 4096) by rw [List.length_map]; omega)], M.bel⟩
      ·
       have hb36' := of_decide_eq_false hb36
       refine qe (v := .bool false) A 15 rfl rfl rfl rfl hP (M.sub (cc (List.nil_sublist _))) (fun w1 M => qf rfl rfl (fun w => (zr w).trans (by rw [hb36]))) λa A↦?_
       refine qe (v := .bool false) A 16 rfl rfl rfl rfl hP (M.sub (cc (List.nil_sublist _))) (fun w1 M => zu rfl rfl rfl rfl) λa A↦?_
       refine qe A 17 rfl rfl rfl rfl hP (M.sub (cc (List.nil_sublist _))) (fun w1 M => zf rfl) λa A↦?_
       refine zn (by kernel_rfl) ?_
       refine hK31 _ _ (wp_cond_false (A.ev rfl) ?_)
       refine wp_skip (hK18 _ _ (wsk fun K38 hK38 => ?_))
       rw [qac (show gdB (ts.map Ty.k).length u.k = true by rw [List.length_map]; exact hb6) (show ¬ 0 ≤ uix (ts.map Ty.k) u.k.ui by show ¬ 0 ≤ uix (ts.map Ty.k) u.ui; omega) (show slP (ts.map Ty.k) u.k.par = false from ((uh (show 0 ≤ u.par by omega) (jc it24)).trans hc29)) (show cnt (ts.map Ty.k) u.par + u.fs.length ≤ 16 ∧ (ts.map Ty.k).length < 4096 by rw [List.length_map]; omega)] at hno
       exact absurd (show true = false from hno) (by decide)
   ·
    have hb20' := bne_eq_false_iff_eq.1 hb20
    refine qe (v := .bool false) A 2 rfl rfl rfl rfl hP (M.sub (cc (List.nil_sublist _))) (fun w1 M => qf rfl rfl (fun w => (ja w).trans (by rw [hb20]))) λa A↦?_
    refine qe A 3 rfl rfl rfl rfl hP (M.sub (cc (List.nil_sublist _))) (fun w1 M => qt rfl) λa A↦?_
    refine zt A 4 rfl rfl rfl rfl hP (M.sub (cc (List.nil_sublist _))) λa A↦?_
    refine zt A 5 rfl rfl rfl rfl hP (M.sub (cc (List.nil_sublist _))) λa A↦?_
    refine zt A 6 rfl rfl rfl rfl hP (M.sub (cc (List.nil_sublist _))) λa A↦?_
    refine zt A 7 rfl rfl rfl rfl hP (M.sub (cc (List.nil_sublist _))) λa A↦?_
    refine zt A 8 rfl rfl rfl rfl hP (M.sub (cc (List.nil_sublist _))) λa A↦?_
    refine zt A 9 rfl rfl rfl rfl hP (M.sub (cc (List.nil_sublist _))) λa A↦?_
    refine zt A 10 rfl rfl rfl rfl hP (M.sub (cc (List.nil_sublist _))) λa A↦?_
    refine zt A 11 rfl rfl rfl rfl hP (M.sub (cc (List.nil_sublist _))) λa A↦?_
    refine zt A 12 rfl rfl rfl rfl hP (M.sub (cc (List.nil_sublist _))) λa A↦?_
    refine qe (v := .bool false) A 13 rfl rfl rfl rfl hP (M.sub (cc (List.nil_sublist _))) (fun w1 M => zu rfl rfl rfl rfl) λa A↦?_
    refine qe A 14 rfl rfl rfl rfl hP (M.sub (cc (List.nil_sublist _))) (fun w1 M => zf rfl) λa A↦?_
    refine zn (by kernel_rfl) ?_
    refine hK19 _ _ (wp_cond_false (A.ev rfl) ?_)
    refine wsk fun K39 hK39 => jn (S := fun w1 => Mg w w1 (.obj g2 (.cells u.c.toArray 33) :: [])) (by kernel_rfl) ?_
    replace M := M.drew
    refine qe A 0 rfl rfl rfl rfl hP (M.sub (cc (List.nil_sublist _))) (fun w1 M => qt rfl) λa A↦?_
    refine qe (v := .pointer (some ⟨g2, 1, none⟩)) A 1 rfl rfl rfl rfl hP (M.sub (cc (List.nil_sublist _))) (fun w1 M => qb RcE_fld_33_1 rfl rfl) λa A↦?_
    refine qe A 2 rfl rfl rfl rfl hP (M.sub (cc (List.nil_sublist _))) (fun w1 M => qj M RcE_is1_3 rfl 0 rfl rfl) λa A↦?_
    refine qe (v := .pointer (some ⟨g2, 2, none⟩)) A 4 rfl rfl rfl rfl hP (M.sub (cc (List.nil_sublist _))) (fun w1 M => qb RcE_fld_33_2 rfl rfl) λa A↦?_
    refine qe A 5 rfl rfl rfl rfl hP (M.sub (cc (List.nil_sublist _))) (fun w1 M => qj M RcE_is1_30 rfl 0 rfl rfl) λa A↦?_
    refine qe (v := .int .i64 (((u.fs.length : Nat) : Int))) A 6 rfl rfl rfl rfl hP (M.sub (cc (List.nil_sublist _))) (fun w1 M => qr Tryz.underlying30 rfl) λa A↦?_
    refine zd (by kernel_rfl) (zy A 3 rfl rfl rfl rfl (za rfl rfl (fun w => by kernel_rfl)) (xl (V.below M.bel) hW (by omega) (by omega)) ?_)
    rintro _ w41 ⟨rfl, hb40⟩
    replace M := M.call hb40
    refine ⟨_, rfl, (M.sub (cc (List.nil_sublist _))), ?_⟩
    intro a A
    refine qe (v := .int .i64 (((cnt (ts.map Ty.k) u.par + u.fs.length : Nat) : Int))) A 7 rfl rfl rfl rfl hP (M.sub (cc (List.nil_sublist _))) (fun w1 M => qf rfl rfl (fun w => (jk (jq (by omega) (by omega)) w).trans (by rw [show (((cnt (ts.map Ty.k) u.par : Nat) : Int) + ((u.fs.length : Nat) : Int) : Int) = ((cnt (ts.map Ty.k) u.par + u.fs.length : Nat) : Int) from by omega]))) λa A↦?_
    rcases tf (decide (16 < ((cnt (ts.map Ty.k) u.par + u.fs.length : Nat) : Int))) with hb42 | hb42
    ·
     have hb42' := of_decide_eq_true hb42
     refine qe (v := .bool true) A 8 rfl rfl rfl rfl hP (M.sub (cc (List.nil_sublist _))) (fun w1 M => qf rfl rfl (fun w => (jx w).trans (by rw [hb42]))) λa A↦?_
     refine qe A 9 rfl rfl rfl rfl hP (M.sub (cc (List.nil_sublist _))) (fun w1 M => qt rfl) λa A↦?_
     refine zt A 10 rfl rfl rfl rfl hP (M.sub (cc (List.nil_sublist _))) λa A↦?_
     refine zt A 11 rfl rfl rfl rfl hP (M.sub (cc (List.nil_sublist _))) λa A↦?_
     refine zt A 12 rfl rfl rfl rfl hP (M.sub (cc (List.nil_sublist _))) λa A↦?_
     refine zt A 13 rfl rfl rfl rfl hP (M.sub (cc (List.nil_sublist _))) λa A↦?_
     refine zt A 14 rfl rfl rfl rfl hP (M.sub (cc (List.nil_sublist _))) λa A↦?_
     refine zt A 15 rfl rfl rfl rfl hP (M.sub (cc (List.nil_sublist _))) λa A↦?_
     refine qe (v := .bool true) A 16 rfl rfl rfl rfl hP (M.sub (cc (List.nil_sublist _))) (fun w1 M => zu rfl rfl rfl rfl) λa A↦?_
     refine qe A 17 rfl rfl rfl rfl hP (M.sub (cc (List.nil_sublist _))) (fun w1 M => zf rfl) λa A↦?_
     refine zn (by kernel_rfl) ?_
     refine hK39 _ _ (wp_cond_true (A.ev rfl) ?_)
     refine wsk fun K43 hK43 => wrl ?_
     iterate 2 refine sda A λa A↦?_
     refine qa (hK43 _ _ (wp_ret (hret _ _ (en2 A rfl (qg rfl) (qg rfl) ?_))))
     exact ⟨by rw [kj (show gdB (ts.map Ty.k).length u.k = true by rw [List.length_map]; exact hb6) (show ¬ 0 ≤ uix (ts.map Ty.k) u.k.ui by show ¬ 0 ≤ uix (ts.map Ty.k) u.ui; omega) (show slP (ts.map Ty.k) u.k.par = false from (ym (show u.par < 0 by omega))) (show ¬ (cnt (ts.map Ty.k) u.par + u.fs.length ≤ 16 ∧ (ts.map Ty.k).length < 4096) by rw [List.length_map]; omega)], M.bel⟩
    ·
     have hb42' := of_decide_eq_false hb42
     refine qe (v := .bool false) A 8 rfl rfl rfl rfl hP (M.sub (cc (List.nil_sublist _))) (fun w1 M => qf rfl rfl (fun w => (jx w).trans (by rw [hb42]))) λa A↦?_
     refine qe A 9 rfl rfl rfl rfl hP (M.sub (cc (List.nil_sublist _))) (fun w1 M => qt rfl) λa A↦?_
     refine qe A 10 rfl rfl rfl rfl hP (M.sub (cc (List.nil_sublist _))) (fun w1 M => qt rfl) λa A↦?_
     refine qe A 11 rfl rfl rfl rfl hP (M.sub (cc (List.nil_sublist _))) (fun w1 M => qs rfl) λa A↦?_
     refine qe (v := .pointer (some ⟨b, 0, none⟩)) A 12 rfl rfl rfl rfl hP (M.sub (cc (List.nil_sublist _))) (fun w1 M => qb RcE_fld_73_0 rfl rfl) λa A↦?_
     refine qe A 13 rfl rfl rfl rfl hP (M.sub (cc (List.nil_sublist _))) (fun w1 M => E.m_loadX M V.c0 RcE_is1_26 rfl) λa A↦?_
     refine qe (v := .int .i64 (((ts.length : Nat) : Int))) A 14 rfl rfl rfl rfl hP (M.sub (cc (List.nil_sublist _))) (fun w1 M => qr Tryz.underlying26 rfl) λa A↦?_
     rcases tf (decide (4096 ≤ ((ts.length : Nat) : Int))) with hb44 | hb44
     ·
      have hb44' := of_decide_eq_true hb44
      refine qe (v := .bool true) A 15 rfl rfl rfl rfl hP (M.sub (cc (List.nil_sublist _))) (fun w1 M => qf rfl rfl (fun w => (zr w).trans (by rw [hb44]))) λa A↦?_
      refine qe (v := .bool true) A 16 rfl rfl rfl rfl hP (M.sub (cc (List.nil_sublist _))) (fun w1 M => zu rfl rfl rfl rfl) λa A↦?_
      refine qe A 17 rfl rfl rfl rfl hP (M.sub (cc (List.nil_sublist _))) (fun w1 M => zf rfl) λa A↦?_
      refine zn (by kernel_rfl) ?_
      refine hK39 _ _ (wp_cond_true (A.ev rfl) ?_)
      refine wsk fun K45 hK45 => wrl ?_
      iterate 2 refine sda A λa A↦?_
      refine qa (hK45 _ _ (wp_ret (hret _ _ (en2 A rfl (qg rfl) (qg rfl) ?_))))
      exact ⟨by rw [kj (show gdB (ts.map Ty.k).length u.k = true by rw [List.length_map]; exact hb6) (show ¬ 0 ≤ uix (ts.map Ty.k) u.k.ui by show ¬ 0 ≤ uix (ts.map Ty.k) u.ui; omega) (show slP (ts.map Ty.k) u.k.par = false from (ym (show u.par < 0 by omega))) (show ¬ (cnt (ts.map Ty.k) u.par + u.fs.length ≤ 16 ∧ (ts.map Ty.k).length < 4096) by rw [List.length_map]; omega)], M.bel⟩
     ·
      have hb44' := of_decide_eq_false hb44
      refine qe (v := .bool false) A 15 rfl rfl rfl rfl hP (M.sub (cc (List.nil_sublist _))) (fun w1 M => qf rfl rfl (fun w => (zr w).trans (by rw [hb44]))) λa A↦?_
      refine qe (v := .bool false) A 16 rfl rfl rfl rfl hP (M.sub (cc (List.nil_sublist _))) (fun w1 M => zu rfl rfl rfl rfl) λa A↦?_
      refine qe A 17 rfl rfl rfl rfl hP (M.sub (cc (List.nil_sublist _))) (fun w1 M => zf rfl) λa A↦?_
      refine zn (by kernel_rfl) ?_
      refine hK39 _ _ (wp_cond_false (A.ev rfl) ?_)
      refine wp_skip (hK18 _ _ (wsk fun K46 hK46 => ?_))
      rw [qac (show gdB (ts.map Ty.k).length u.k = true by rw [List.length_map]; exact hb6) (show ¬ 0 ≤ uix (ts.map Ty.k) u.k.ui by show ¬ 0 ≤ uix (ts.map Ty.k) u.ui; omega) (show slP (ts.map Ty.k) u.k.par = false from (ym (show u.par < 0 by omega))) (show cnt (ts.map Ty.k) u.par + u.fs.length ≤ 16 ∧ (ts.map Ty.k).length < 4096 by rw [List.length_map]; omega)] at hno
      exact absurd (show true = false from hno) (by decide)
 ·
  refine gcl A M (ef rfl rfl) (um (V.below M.bel) hW (hU.below M.bel) hul huz hb6) fun w48 hb47 M a A => ?_
  refine sdo (v := .bool true) A (zm rfl jb) λa A↦?_
  refine sdk (v := .bool true) A λa A↦?_
  refine qa (hK5 _ _ (wp_cond_true (A.ev rfl) ?_))
  refine wsk fun K49 hK49 => wrl ?_
  iterate 2 refine sda A λa A↦?_
  refine qa (hK49 _ _ (wp_ret (hret _ _ (en2 A rfl (qg rfl) (qg rfl) ?_))))
  exact ⟨by rw [tyS_bad (show gdB (ts.map Ty.k).length u.k = false by rw [List.length_map]; exact hb6)], M.bel⟩
theorem make_no {w : World} {b tc rc : Nat} {tz ro : Option Addr} {ts : List Ty} {rs : List Rk} (V : SR w b tz tc ts ro rc rs) (hW : WS (ts.map Ty.k) (rs.map Rk.k)) {vo : Option Addr} {vc : Nat} {vs : List Dt} (hV : Rt w vo vs) (hD : ∀ d ∈ vs, d.rd w) (hvl : vs.length ≤ 1000000000) (hT : Tabs8 w) {t : Int} (hno : (mkS (ts.map Ty.k) rs.length t (vs.map Dt.tr)).2.2 = false) : Calls Tryz.prog 10 #[.pointer (some ⟨b, 0, none⟩), .int .i64 t, .slice vo vs.length vc] w fun e w' => e = .returned (.tuple #[.int .i64 (mkS (ts.map Ty.k) rs.length t (vs.map Dt.tr)).1, .int .i64 (mkS (ts.map Ty.k) rs.length t (vs.map Dt.tr)).2.1]) ∧ Below w.heap.size w w' := by
 have hkl := hW.kl
 have hrl := hW.rl
 rw [List.length_map] at hkl hrl
 have M : Mg w w ([]) := Mg.start w
 refine qp (l := [(0, .pointer (some ⟨b, 0, none⟩)), (1, .int .i64 t), (2, .slice vo vs.length vc)]) Tryz.func10 rfl Tryz.ntmps10 rfl rfl ?_
 intro Q hret hnorm hP a A
 refine wsk fun K1 hK1 => wrl ?_
 iterate 2 refine sda A λa A↦?_
 refine qa (hK1 _ _ (wsk fun K2 hK2 => wrl ?_))
 iterate 2 refine sdm A λa A↦?_
 rcases tf (okT ts.length t) with hb3 | hb3
 ·
  have hx5 := ka hb3
  refine gcl A M (ef rfl rfl) (vb (V.below M.bel) hW hb3) fun w6 hb4 M a A => ?_
  refine sda A λa A↦?_
  refine qa (hK2 _ _ (wsk fun K7 hK7 => wp_block (wsk fun K8 hK8 => wrl (sdm A λa A↦?_))))
  refine sdo (v := .bool false) A (qf rfl rfl (fun w => by kernel_rfl)) λa A↦?_
  refine sda A λa A↦?_
  refine qa (hK8 _ _ (wp_cond_false (A.ev rfl) ?_))
  refine wsk fun K9 hK9 => wrl (sdm A λa A↦?_)
  refine sdo A (qr Tryz.underlying34 rfl) λa A↦?_
  iterate 2 refine sdm A λa A↦?_
  refine gcl A M (ef rfl rfl) (xl (V.below M.bel) hW (by omega) (by omega)) fun w11 hb10 M a A => ?_
  rcases tf ((((vs.length : Nat) : Int) != ((cnt (ts.map Ty.k) t : Nat) : Int))) with hb12 | hb12
  ·
   have hb12' := bne_iff_ne.1 hb12
   refine sdc A ja hb12 λa A↦?_
   refine sda A λa A↦?_
   refine qa (hK9 _ _ (wp_cond_true (A.ev rfl) ?_))
   refine wsk fun K13 hK13 => wrl ?_
   iterate 2 refine sda A λa A↦?_
   refine qa (hK13 _ _ (wp_ret (hret _ _ (en2 A rfl (qg rfl) (qg rfl) ?_))))
   exact ⟨by rw [mkS_arg hb3 (show (vs.map Dt.tr).length ≠ cnt (ts.map Ty.k) t by rw [List.length_map]; omega)], M.bel⟩
  ·
   have hb12' := bne_eq_false_iff_eq.1 hb12
   refine sdc A ja hb12 λa A↦?_
   refine sda A λa A↦?_
   refine qa (hK9 _ _ (wp_cond_false (A.ev rfl) ?_))
   refine wsk fun K14 hK14 => wrl (sdm A λa A↦?_)
   rcases tf ((vs.map Dt.tr).all (jf zp)) with hb15 | hb15
   ·
    refine gcl A M (ef rfl rfl) (ke (hV.below M.bel) (fun d hd => Dt.keep M.bel _ (hD d hd)) hvl (hT.below M.bel) hb15) fun w17 hb16 M a A => ?_
    refine sda A λa A↦?_
    refine qa (hK14 _ _ (wp_cond_false (A.ev rfl) ?_))
    refine wsk fun K18 hK18 => wrl (sdm A λa A↦?_)
    refine sdo A (qs rfl) λa A↦?_
    refine sdo (v := .pointer (some ⟨b, 1, none⟩)) A (qb RcE_fld_73_1 rfl rfl) λa A↦?_
    refine sdo A (E.m_loadX M V.c1 RcE_is1_71 rfl) λa A↦?_
    refine sdo A (qr Tryz.underlying71 rfl) λa A↦?_
    rcases tf (decide (20000 ≤ ((rs.length : Nat) : Int))) with hb19 | hb19
    ·
     have hb19' := of_decide_eq_true hb19
     refine sdc A zr hb19 λa A↦?_
     refine sda A λa A↦?_
     refine qa (hK18 _ _ (wp_cond_true (A.ev rfl) ?_))
     refine wsk fun K20 hK20 => wrl ?_
     iterate 2 refine sda A λa A↦?_
     refine qa (hK20 _ _ (wp_ret (hret _ _ (en2 A rfl (qg rfl) (qg rfl) ?_))))
     exact ⟨by rw [mkS_full hb3 (show (vs.map Dt.tr).length = cnt (ts.map Ty.k) t by rw [List.length_map]; omega) hb15 (by omega)], M.bel⟩
    ·
     have hb19' := of_decide_eq_false hb19
     refine sdc A zr hb19 λa A↦?_
     refine sda A λa A↦?_
     refine qa (hK18 _ _ (wp_cond_false (A.ev rfl) ?_))
     refine wp_skip (hK7 _ _ (wsk fun K21 hK21 => ?_))
     rw [mkS_ok hb3 (show (vs.map Dt.tr).length = cnt (ts.map Ty.k) t by rw [List.length_map]; omega) hb15 (by omega)] at hno
     exact absurd (show true = false from hno) (by decide)
   ·
    refine gcl A M (ef rfl rfl) (ke (hV.below M.bel) (fun d hd => Dt.keep M.bel _ (hD d hd)) hvl (hT.below M.bel) hb15) fun w23 hb22 M a A => ?_
    refine sda A λa A↦?_
    refine qa (hK14 _ _ (wp_cond_true (A.ev rfl) ?_))
    refine wsk fun K24 hK24 => wrl ?_
    iterate 2 refine sda A λa A↦?_
    refine qa (hK24 _ _ (wp_ret (hret _ _ (en2 A rfl (qg rfl) (qg rfl) ?_))))
    exact ⟨by rw [mkS_form hb3 (show (vs.map Dt.tr).length = cnt (ts.map Ty.k) t by rw [List.length_map]; omega) hb15], M.bel⟩
 ·
  have hx26 := qig hb3
  refine gcl A M (ef rfl rfl) (kb (V.below M.bel) hW hb3) fun w27 hb25 M a A => ?_
  refine sda A λa A↦?_
  refine qa (hK2 _ _ (wsk fun K28 hK28 => wp_block (wsk fun K29 hK29 => wrl (sdm A λa A↦?_))))
  refine sdo (v := .bool true) A (qf rfl rfl (fun w => by kernel_rfl)) λa A↦?_
  refine sda A λa A↦?_
  refine qa (hK29 _ _ (wp_cond_true (A.ev rfl) ?_))
  refine wsk fun K30 hK30 => wrl (sdm A λa A↦?_)
  iterate 2 refine sda A λa A↦?_
  refine qa (hK30 _ _ (wp_ret (hret _ _ (en2 A rfl (qg rfl) (qg rfl) ?_))))
  exact ⟨by rw [mkS_no hb3], M.bel⟩
theorem seS_pl {ks : List TK} {rr : List (Nat × List Tr)} {r t i : Int} {v : Tr} (h : (plS ks rr r t i).2 ≠ 0) : seS ks rr r t i v = (plS ks rr r t i).2 := if_neg h
theorem seS_form {ks : List TK} {rr : List (Nat × List Tr)} {r t i : Int} {v : Tr} (h : (plS ks rr r t i).2 = 0) (hs : jf zp v = false) : seS ks rr r t i v = 2 := by unfold seS; rw [if_pos h, if_neg (by rw [hs]; decide)]
theorem qhb {ks : List TK} {rr : List (Nat × List Tr)} {r t i : Int} {v : Tr} (h : (plS ks rr r t i).2 = 0) (hs : jf zp v = true) {k : TK} (hk : ks[t.toNat]? = some k) {q : Bool} (hq : k.ms[i.toNat]? = some q) : seS ks rr r t i v = if q = true then 0 else 8 := by
 unfold seS
 rw [if_pos h, if_pos hs, hk]
 show (if (k.ms[i.toNat]?).getD false = true then _ else _) = _
 rw [hq]
 rfl
theorem set_no {w : World} {b tc rc : Nat} {tz ro : Option Addr} {ts : List Ty} {rs : List Rk} (V : SR w b tz tc ts ro rc rs) (hW : WS (ts.map Ty.k) (rs.map Rk.k)) {v : Dt} (hv : v.rd w) (hT : Tabs8 w) {r t i : Int} (hno : seS (ts.map Ty.k) (rs.map Rk.k) r t i v.tr ≠ 0) : Calls Tryz.prog 16 #[.pointer (some ⟨b, 0, none⟩), .int .i64 r, .int .i64 t, .int .i64 i, .agg (v.d.cells v.ts.length).toArray] w fun e w' => e = .returned (.int .i64 (seS (ts.map Ty.k) (rs.map Rk.k) r t i v.tr)) ∧ Below w.heap.size w w' := by
 have hkl := hW.kl
 have hrl := hW.rl
 rw [List.length_map] at hkl hrl
 have M : Mg w w ([]) := Mg.start w
 refine qp (l := [(0, .pointer (some ⟨b, 0, none⟩)), (1, .int .i64 r), (2, .int .i64 t), (3, .int .i64 i), (4, .agg (v.d.cells v.ts.length).toArray)]) Tryz.func16 rfl Tryz.ntmps16 rfl rfl ?_
 intro Q hret hnorm hP a A
 refine wsk fun K1 hK1 => wrl (zw (vs := (v.d.cells v.ts.length)) (t := 42) A M rfl rfl rfl pg (zk rfl rfl) (by decide) ?_)
 intro g2 w3 M a A
 refine sda A λa A↦?_
 refine qa (hK1 _ _ (wsk fun K4 hK4 => wrl ?_))
 iterate 4 refine sdm A λa A↦?_
 refine gcl A M (ef rfl rfl) (un (V.below M.bel) hW) fun w6 hb5 M a A => ?_
 refine sdm A λa A↦?_
 iterate 2 refine sdo A (ze (vs := [.int .i64 ((plS (ts.map Ty.k) (rs.map Rk.k) r t i).1), .int .i64 ((plS (ts.map Ty.k) (rs.map Rk.k) r t i).2)]) rfl rfl) λa A↦?_
 iterate 2 refine sda A λa A↦?_
 refine qa (hK4 _ _ (wsk fun K7 hK7 => wp_block (wsk fun K8 hK8 => wrl (sdm A λa A↦?_))))
 rcases tf (((plS (ts.map Ty.k) (rs.map Rk.k) r t i).2 != 0)) with hb9 | hb9
 ·
  have hb9' := bne_iff_ne.1 hb9
  refine sdc A ja hb9 λa A↦?_
  refine sda A λa A↦?_
  refine qa (hK8 _ _ (wp_cond_true (A.ev rfl) ?_))
  refine wsk fun K10 hK10 => wrl (sdm A λa A↦?_)
  refine sda A λa A↦?_
  refine qa (hK10 _ _ (wp_ret (hret _ _ (en1 A rfl (qg rfl) ?_))))
  exact ⟨by rw [seS_pl (show (plS (ts.map Ty.k) (rs.map Rk.k) r t i).2 ≠ 0 by omega)], M.bel⟩
 ·
  have hb9' := bne_eq_false_iff_eq.1 hb9
  refine sdc A ja hb9 λa A↦?_
  refine sda A λa A↦?_
  refine qa (hK8 _ _ (wp_cond_false (A.ev rfl) ?_))
  refine wsk fun K11 hK11 => wrl (sdo A (je M RcE_isS_42 rfl 0 rfl (cs := (v.d.cells v.ts.length)) rfl rfl) λa A↦?_)
  rcases tf (jf zp v.tr) with hb12 | hb12
  ·
   refine gcl A M (ef rfl rfl) ((hb12 ▸ sound_any (t := v) (Dt.keep M.bel _ hv) (hT.below M.bel))) fun w14 hb13 M a A => ?_
   refine sdo (v := .bool false) A (zm rfl jb) λa A↦?_
   refine sda A λa A↦?_
   refine qa (hK11 _ _ (wp_cond_false (A.ev rfl) ?_))
   refine wsk fun K15 hK15 => ?_
   obtain ⟨x9, k9, hx9, hk9, p1, p2, p3, p4, p5, p6, p7, p8, p9, p10⟩ := pl_in hW (show (plS (ts.map Ty.k) (rs.map Rk.k) r t i).2 = 0 by omega)
   rw [List.length_map] at p2 p4
   obtain ⟨ty16, bt17, ot18, it19, mt20, rt21, lt22, Ht23⟩ := V.T.at_ (i := t.toNat) (by omega)
   have hml := hW.ml _ (List.mem_of_getElem? (jc it19))
   rw [show ty16.k.fs.length = ty16.fs.length from rfl, show ty16.k.ms.length = ty16.ms.length from rfl] at hml
   obtain rfl : k9 = ty16.k := Option.some.inj (hk9.symm.trans (jc it19))
   rw [show ty16.k.fs.length = ty16.fs.length from rfl] at p6
   refine wrl (sdm A λa A↦?_)
   refine sdo A (qs rfl) λa A↦?_
   refine sdo (v := .pointer (some ⟨b, 0, none⟩)) A (qb RcE_fld_73_0 rfl rfl) λa A↦?_
   refine sdo A (E.m_loadX M V.c0 RcE_is1_26 rfl) λa A↦?_
   refine sdm A λa A↦?_
   refine sdo (v := .pointer (some ⟨bt17, ot18 + t.toNat * 7, none⟩)) A (zg (k := t.toNat) Tryz.underlying26 (by kernel_rfl) rfl rfl (by first | rfl | omega) lt22 (by omega)) λa A↦?_
   refine sdo (v := .pointer (some ⟨bt17, ot18 + t.toNat * 7 + 3, none⟩)) A (qb RcE_fld_33_3 rfl rfl) λa A↦?_
   refine sdo A (jo (j := 3) M Ht23 RcE_is1_31 rfl rfl rfl) λa A↦?_
   refine sdm A λa A↦?_
   obtain ⟨bx24, ox25, sx26, hs27, hc28, hi29⟩ := rt21.m.at_ (i := i.toNat) (by omega)
   refine sdo (v := .pointer (some ⟨bx24, ox25 + i.toNat, none⟩)) A (zl (k := i.toNat) Tryz.underlying31 (by kernel_rfl) rfl rfl (by first | rfl | omega) hs27 (by omega)) λa A↦?_
   refine sdo A (E.m_loadX M hc28 RcE_is1_4 rfl) λa A↦?_
   rcases sx26 with _ | _
   ·
    refine sdo (v := .bool true) A (zm rfl jb) λa A↦?_
    refine sda A λa A↦?_
    refine qa (hK15 _ _ (wp_cond_true (A.ev rfl) ?_))
    refine wsk fun K30 hK30 => wrl (sda A λa A↦?_)
    refine qa (hK30 _ _ (wp_ret (hret _ _ (en1 A rfl (qg rfl) ?_))))
    exact ⟨by rw [qhb (show (plS (ts.map Ty.k) (rs.map Rk.k) r t i).2 = 0 by omega) hb12 hk9 hi29, if_neg (by decide)], M.bel⟩
   ·
    refine sdo (v := .bool false) A (zm rfl jb) λa A↦?_
    refine sda A λa A↦?_
    refine qa (hK15 _ _ (wp_cond_false (A.ev rfl) ?_))
    refine wp_skip (hK7 _ _ (wsk fun K31 hK31 => ?_))
    rw [qhb (show (plS (ts.map Ty.k) (rs.map Rk.k) r t i).2 = 0 by omega) hb12 hk9 hi29, if_pos rfl] at hno
    exact absurd rfl hno
  ·
   refine gcl A M (ef rfl rfl) ((hb12 ▸ sound_any (t := v) (Dt.keep M.bel _ hv) (hT.below M.bel))) fun w33 hb32 M a A => ?_
   refine sdo (v := .bool true) A (zm rfl jb) λa A↦?_
   refine sda A λa A↦?_
   refine qa (hK11 _ _ (wp_cond_true (A.ev rfl) ?_))
   refine wsk fun K34 hK34 => wrl (sda A λa A↦?_)
   refine qa (hK34 _ _ (wp_ret (hret _ _ (en1 A rfl (qg rfl) ?_))))
   exact ⟨by rw [seS_form (show (plS (ts.map Ty.k) (rs.map Rk.k) r t i).2 = 0 by omega) hb12], M.bel⟩
theorem chn_app {ps : List Int} (hw : Wf ps) (q : List Int) : ∀ (n : Nat) (t : Int), t < ((ps.length : Nat) : Int) → chn (ps ++ q) n t = chn ps n t
  | 0, t, _ => rfl
  | n + 1, t, ht => by
    rw [chn, chn]
    by_cases h : t < 0
    · rw [if_pos h, if_pos h]
    · rw [if_neg h, if_neg h]
      have e : (ps ++ q).getD t.toNat (-1) = ps.getD t.toNat (-1) := by
        rw [List.getD_eq_getElem?_getD, List.getD_eq_getElem?_getD, List.getElem?_append_left (by omega)]
      have := hw.at_ (t := t) (by omega)
      rw [e, chn_app hw q n _ (by omega)]
theorem chT_app {ps : List Int} (hw : Wf ps) (q : List Int) {t : Int} (ht : t < ((ps.length : Nat) : Int)) : chT (ps ++ q) t = chT ps t := chn_app hw q _ t ht
theorem prs_len (ks : List TK) : (prs ks).length = ks.length := List.length_map _
theorem qhc {ks : List TK} (hw : Wf (prs ks)) (u : TK) {t : Int} (ht : t < ((ks.length : Nat) : Int)) : cnt (ks ++ [u]) t = cnt ks t := by
  unfold cnt
  rw [show prs (ks ++ [u]) = prs ks ++ [u.par] from List.map_append, chT_app hw _ (by rw [prs_len]; exact ht)]
  unfold qdc
  congr 1
  refine List.map_congr_left fun x hx => ?_
  have := yk hw hx
  unfold nfs
  rw [List.getElem?_append_left (by omega)]
theorem wf_app {ps : List Int} (hw : Wf ps) {p : Int} (h0 : -1 ≤ p) (h1 : p < ((ps.length : Nat) : Int)) : Wf (ps ++ [p]) := by
  intro i q h
  by_cases hi : i < ps.length
  · rw [List.getElem?_append_left hi] at h; exact hw i q h
  · rw [List.getElem?_append_right (by omega)] at h
    have hl := (List.getElem?_eq_some_iff.1 h).1
    simp only [List.length_cons, List.length_nil] at hl
    rw [show i - ps.length = 0 by omega] at h
    cases h
    omega
theorem ws_type {ks : List TK} {rr : List (Nat × List Tr)} (hW : WS ks rr) {u : TK} (hn : (tyS ks u).2.2 = true) (hz : u.nm.size ≤ 281474976710656 ∧ u.ui.size ≤ 281474976710656 ∧ ∀ s ∈ u.fs, s.size ≤ 281474976710656) : WS (ks ++ [u]) rr := by
  have key : gdB ks.length u = true ∧ cnt ks u.par + u.fs.length ≤ 16 ∧ ks.length < 4096 := by
    unfold tyS at hn
    split at hn
    · rename_i hg
      split at hn
      · split at hn <;> cases hn
      · split at hn
        · cases hn
        · split at hn
          · rename_i h; exact ⟨hg, h⟩
          · cases hn
    · cases hn
  obtain ⟨hg, hc, hl⟩ := key
  obtain ⟨g1, g2, g3, g4⟩ := gd_t hg
  have hwf : Wf (prs (ks ++ [u])) := by
    rw [show prs (ks ++ [u]) = prs ks ++ [u.par] from List.map_append]
    exact wf_app hW.wf g3 (by rw [prs_len]; exact g4)
  refine ⟨hwf, ?_, ?_, by rw [List.length_append]; show ks.length + 1 ≤ 4096; omega, ?_, hW.rl, hW.bk, ?_⟩
  · intro k hk
    rcases List.mem_append.1 hk with h | h
    · exact hW.ml k h
    · rw [List.mem_singleton.1 h]; exact g1
  · intro i hi
    rw [List.length_append] at hi
    by_cases h : i < ks.length
    · rw [qhc hW.wf u (by omega)]; exact hW.fl i h
    · have hi2 : i = ks.length := by simp only [List.length_cons, List.length_nil] at hi; omega
      subst hi2
      have e : (ks ++ [u])[((ks.length : Nat) : Int).toNat]? = some u := by
        rw [Int.toNat_natCast, List.getElem?_append_right (Nat.le_refl _), Nat.sub_self]; rfl
      rw [vz hwf (by omega) e, qhc hW.wf u g4]
      omega
  · intro r hr
    have := hW.rk r hr
    rw [List.length_append, qhc hW.wf u (by omega)]
    exact ⟨by omega, this.2⟩
  · intro k hk
    rcases List.mem_append.1 hk with h | h
    · exact hW.zs k h
    · rw [List.mem_singleton.1 h]; exact hz
theorem ws_make {ks : List TK} {rr : List (Nat × List Tr)} (hW : WS ks rr) {t : Int} {vs : List Tr} (hn : (mkS ks rr.length t vs).2.2 = true) (hb : ∀ d ∈ vs, d.bulk ≤ 1000000000) : WS ks (rr ++ [(t.toNat, vs)]) := by
  have key : okT ks.length t = true ∧ vs.length = cnt ks t ∧ rr.length < 20000 := by
    unfold mkS at hn
    split at hn
    · rename_i h1
      split at hn
      · rename_i h2
        split at hn
        · split at hn
          · rename_i h3; exact ⟨h1, h2, h3⟩
          · cases hn
        · cases hn
      · cases hn
    · cases hn
  obtain ⟨h1, h2, h3⟩ := key
  have h4 := ka h1
  refine ⟨hW.wf, hW.ml, hW.fl, hW.kl, ?_, by rw [List.length_append]; show rr.length + 1 ≤ 20000; omega, ?_, hW.zs⟩
  · intro r hr
    rcases List.mem_append.1 hr with h | h
    · exact hW.rk r h
    · rw [List.mem_singleton.1 h]
      refine ⟨by show t.toNat < _; omega, ?_⟩
      show vs.length = cnt ks ((t.toNat : Nat) : Int)
      rw [show ((t.toNat : Nat) : Int) = t by omega]; exact h2
  · intro r hr
    rcases List.mem_append.1 hr with h | h
    · exact hW.bk r h
    · rw [List.mem_singleton.1 h]; exact hb
/-- One field of one record is changed. -/
def qmd (rr : List (Nat × List Tr)) (r a : Nat) (v : Tr) : List (Nat × List Tr) := match rr[r]? with
  | some x => rr.set r (x.1, x.2.set a v)
  | none => rr
theorem rset_at {rr : List (Nat × List Tr)} {r a : Nat} {v : Tr} {x : Nat × List Tr} (h : rr[r]? = some x) : qmd rr r a v = rr.set r (x.1, x.2.set a v) := by unfold qmd; rw [h]
theorem yu {α : Type} {l : List α} {i : Nat} {v x : α} (h : x ∈ l.set i v) : x ∈ l ∨ x = v := List.mem_or_eq_of_mem_set h
theorem ws_set {ks : List TK} {rr : List (Nat × List Tr)} (hW : WS ks rr) {r a : Nat} {v : Tr} (hb : v.bulk ≤ 1000000000) : WS ks (qmd rr r a v) := by
  unfold qmd
  cases e : rr[r]? with
  | none => exact hW
  | some x =>
    have hx := List.mem_of_getElem? e
    refine ⟨hW.wf, hW.ml, hW.fl, hW.kl, ?_, by rw [List.length_set]; exact hW.rl, ?_, hW.zs⟩
    · intro q hq
      rcases yu hq with h | h
      · exact hW.rk q h
      · subst h
        have := hW.rk x hx
        refine ⟨this.1, ?_⟩
        show (x.2.set a v).length = _
        rw [List.length_set]; exact this.2
    · intro q hq d hd
      rcases yu hq with h | h
      · exact hW.bk q h d hd
      · subst h
        rcases yu hd with h | h
        · exact hW.bk x hx d h
        · rw [h]; exact hb
theorem ws_nil : WS [] [] := ⟨fun i p h => by simp [prs] at h, fun k h => (by cases h), fun i h => (by simp at h), by simp, fun r h => (by cases h), by simp, fun r h => (by cases h), fun k h => (by cases h)⟩
theorem bulk_each {vs : List Tr} (h : Tr.bulks vs ≤ 1000000000) : ∀ d ∈ vs, d.bulk ≤ 1000000000 := fun d hd => Nat.le_trans (ue hd) h
section
variable {P : Program} {w0 w : World} {L : List Ck} {l : List (Nat × Value)} {dst : Option Tmp} {ty : TypeId} {pos : String} {after : Array Edge} {guard : Option (Nat × Bool)}
end
structure Pst where
 tz : Option Addr
 tc : Nat
 ts : List Ty
 ro : Option Addr
 rc : Nat
 rs : List Rk
def Rk.row (r : Rk) : Ck := .row 42 11 (.slice r.vo r.vs.length r.vc) r.vs.length (qi r.vs)
def Pst.head (P : Pst) (b : Nat) : List Ck := [(.obj b (.cells #[.slice P.tz P.ts.length P.tc, .slice P.ro P.rs.length P.rc] 73)), .row 33 7 (.slice P.tz P.ts.length P.tc) P.ts.length (qn Ty.c P.ts), .row 86 2 (.slice P.ro P.rs.length P.rc) P.rs.length (qn Rk.c P.rs)]
def Pst.pcs (P : Pst) (b : Nat) : List Ck := P.head b ++ P.rs.map Rk.row
def Pst.ks (P : Pst) : List TK := P.ts.map Ty.k
def Pst.rr (P : Pst) : List (Nat × List Tr) := P.rs.map Rk.k
structure PL (w0 : World) (X : List Ck) (P : Pst) : Prop where
 ty : ∀ t ∈ P.ts, ∀ w, Mg w0 w X → TyR w t
 da : ∀ r ∈ P.rs, ∀ d ∈ r.vs, ∀ w, Mg w0 w X → d.rd w
 ws : WS P.ks P.rr
 nb : zv X
section
variable {w0 w : World} {b : Nat} {P : Pst} {EE X : List Ck}
theorem vj (rs : List Rk) : zv (rs.map Rk.row) := fun c hc b bs e => by
 obtain ⟨r, _, h⟩ := List.mem_map.1 hc
 rw [← h] at e; cases e
theorem yv (P : Pst) (b : Nat) : zv (P.head b) := fun c hc b' bs e => by
 simp only [Pst.head, List.mem_cons, List.not_mem_nil, or_false] at hc
 rcases hc with h | h | h <;> (rw [h] at e; cases e)
theorem pcs_perm (P : Pst) (b : Nat) (EE X : List Ck) : (EE ++ (P.pcs b ++ X)).Perm (P.head b ++ (P.rs.map Rk.row ++ (X ++ EE))) := by
 refine List.perm_append_comm.trans ?_
 rw [Pst.pcs, List.append_assoc, List.append_assoc]
theorem toP (M : Mg w0 w (EE ++ (P.pcs b ++ X))) : Mg w0 w (P.head b ++ (P.rs.map Rk.row ++ (X ++ EE))) := M.perm (pcs_perm P b EE X)
theorem sr_of (hP : PL w0 X P) (M : Mg w0 w (P.head b ++ (P.rs.map Rk.row ++ (X ++ EE)))) : SR w b P.tz P.tc P.ts P.ro P.rc P.rs := by
 have hX : Mg w0 w X := M.sub ((List.sublist_append_left X EE).trans ((List.sublist_append_right _ _).trans (List.sublist_append_right _ _)))
 have h0 : Mg w0 w ((.obj b (.cells #[.slice P.tz P.ts.length P.tc, .slice P.ro P.rs.length P.rc] 73)) :: .row 33 7 (.slice P.tz P.ts.length P.tc) P.ts.length (qn Ty.c P.ts) :: .row 86 2 (.slice P.ro P.rs.length P.rc) P.rs.length (qn Rk.c P.rs) :: (P.rs.map Rk.row ++ (X ++ EE))) := M
 refine ⟨h0.cell 0 rfl 0 rfl, h0.cell 0 rfl 1 rfl, ⟨rc_own (h0.has 1 rfl), fun t ht => hP.ty t ht w hX⟩, ⟨rc_own (h0.has 2 rfl), fun r hr => ⟨?_, fun d hd => hP.da r hr d hd w hX⟩⟩⟩
 have := M.all r.row (by
  refine List.mem_append_right _ (List.mem_append_left _ (List.mem_map.2 ⟨r, hr, rfl⟩)))
 exact (qfj this).1
theorem PL.sr (hP : PL w0 X P) (M : Mg w0 w (EE ++ (P.pcs b ++ X))) : SR w b P.tz P.tc P.ts P.ro P.rc P.rs := sr_of hP (toP M)
theorem qjg (hE : zv EE) (hP : PL w0 X P) : zv (P.rs.map Rk.row ++ (X ++ EE)) := jd (vj P.rs) (jd hP.nb hE)
theorem inE {φ : World → Prop} (h : ∀ w1, Mg w0 w1 EE → φ w1) : ∀ w1, Mg w0 w1 (P.rs.map Rk.row ++ (X ++ EE)) → φ w1 := fun w1 h1 => h w1 (h1.sub ((List.sublist_append_right _ _).trans (List.sublist_append_right _ _)))
theorem addF {hd N A F : List Ck} (h : Mg w0 w (hd ++ (F ++ (A ++ (X ++ EE))))) : Mg w0 w (EE ++ ((hd ++ A) ++ (F ++ X))) := by
 refine h.perm ?_
 refine List.Perm.trans ?_ List.perm_append_comm
 rw [List.append_assoc, List.append_assoc]
 refine List.Perm.append_left hd ?_
 refine (List.perm_append_comm_assoc F A _).trans ?_
 rw [List.append_assoc]
end
theorem over_take {xs cs : List Value} {o : Nat} (h : (xs.drop o).take cs.length = cs) : over xs o cs = xs := by
 induction cs generalizing o with
 | nil => rfl
 | cons c cs ih =>
  have h0 : xs[o]? = some c := by
   have := congrArg (fun l => l[0]?) h
   simpa using this
  have e : xs.set o c = xs := by
   apply List.ext_getElem?
   intro i
   by_cases hi : o = i
   ·
    subst hi; rw [List.getElem?_set_self (List.getElem?_eq_some_iff.1 h0).1]; exact h0.symm
   ·
    rw [List.getElem?_set_ne hi]
  rw [over, e]
  refine ih ?_
  have ho := (List.getElem?_eq_some_iff.1 h0).1
  rw [List.drop_eq_getElem_cons ho, List.length_cons, List.take_succ_cons] at h
  exact (List.cons.inj h).2
theorem p_type {w0 w : World} {b : Nat} {P : Pst} {EE X : List Ck} (hP : PL w0 X P) (hE : zv EE) {u : Ty} (hU : ∀ w1, Mg w0 w1 EE → TyR w1 u) (hul : u.fs.length ≤ 2000000) (hum : u.ms.length ≤ 2000000) (hz1 : u.nm.size ≤ 281474976710656) (hz2 : u.ui.size ≤ 281474976710656) (huz : ∀ s ∈ u.fs, s.size ≤ 281474976710656) (M : Mg w0 w (EE ++ (P.pcs b ++ X))) : Calls Tryz.prog 8 #[.pointer (some ⟨b, 0, none⟩), .agg u.c.toArray] w fun e w' => ∃ (P' : Pst) (F : List Ck), e = .returned (.tuple #[.int .i64 (tyS P.ks u.k).1, .int .i64 (tyS P.ks u.k).2.1]) ∧ (PL w0 (F ++ X) P' ∧ P'.ks = (if (tyS P.ks u.k).2.2 = true then P.ks ++ [u.k] else P.ks) ∧ P'.rr = P.rr) ∧ Mg w0 w' (EE ++ (P'.pcs b ++ (F ++ X))) := by
 have S := hP.sr M
 have hW := hP.ws
 have hEM : Mg w0 w EE := M.sub (List.sublist_append_left _ _)
 cases hq : (tyS P.ks u.k).2.2 with
 | false =>
  refine (type_no S hW (hU w hEM) hul hum huz hq).mono ?_
  rintro e w' ⟨rfl, h1⟩
  exact ⟨P, [], rfl, ⟨hP, by rw [if_neg (by decide)], rfl⟩, M.call h1⟩
 | true =>
  have key : gdB P.ts.length u.k = true ∧ ¬ 0 ≤ uix P.ks u.ui ∧ slP P.ks u.par = false ∧ cnt P.ks u.par + u.fs.length ≤ 16 ∧ P.ts.length < 4096 ∧ tyS P.ks u.k = (((P.ts.length : Nat) : Int), 0, true) := by
   have hq0 := hq
   unfold tyS at hq
   split at hq
   ·
    rename_i hg
    split at hq
    ·
     split at hq <;> cases hq
    ·
     rename_i h0
     split at hq
     ·
      cases hq
     ·
      rename_i h1
      split at hq
      ·
       rename_i h2
       refine ⟨?_, h0, show slP P.ks u.k.par = false by simpa using h1, h2.1, by have := h2.2; rwa [Pst.ks, List.length_map] at this, ?_⟩
       ·
        rwa [Pst.ks, List.length_map] at hg
       ·
        rw [qac hg h0 (by simpa using h1) h2, Pst.ks, List.length_map]
      ·
       cases hq
   ·
    cases hq
  obtain ⟨k1, k2, k3, k4, k5, k6⟩ := key
  refine (type_new (qjg hE hP) hW (fun w1 h1 => sr_of hP h1) (toP M) (inE hU) hul hum hz1 hz2 huz k1 k2 k3 k4 k5).mono ?_
  rintro e w' ⟨t2, tz', tc', rfl, hk2, h1⟩
  have hks : (P.ts ++ [t2]).map Ty.k = P.ks ++ [u.k] := by rw [List.map_append, List.map_cons, List.map_nil, hk2]; rfl
  refine ⟨⟨tz', tc', P.ts ++ [t2], P.ro, P.rc, P.rs⟩, [.row 9 1 (.slice t2.fo t2.fs.length t2.fc) t2.fs.length (E.strC t2.fs), .row 4 1 (.slice t2.mo t2.ms.length t2.mc) t2.ms.length (E.boolC t2.ms)], by rw [k6], ⟨⟨?_, fun r hr d hd w9 h9 => hP.da r hr d hd w9 (h9.sub (List.sublist_append_right _ _)), ?_, jd (qh (by simp) (qh (by simp) (fun c hc => by cases hc))) hP.nb⟩, by rw [if_pos rfl]; exact hks, rfl⟩, ?_⟩
  ·
   intro t ht w9 h9
   rcases List.mem_append.1 ht with h | h
   ·
    exact hP.ty t h w9 (h9.sub (List.sublist_append_right _ _))
   ·
    rw [List.mem_singleton.1 h]
    exact ⟨Go.Proofs.YtokgmpjblnpjmaaGreatDoor.G.E.rc_own (h9.has 0 rfl), Go.Proofs.YtokgmpjblnpjmaaGreatDoor.G.E.rc_own (h9.has 1 rfl)⟩
  ·
   show WS ((P.ts ++ [t2]).map Ty.k) P.rr
   rw [hks]
   exact ws_type hW hq ⟨hz1, hz2, huz⟩
  ·
   exact addF (hd := Pst.head ⟨tz', tc', P.ts ++ [t2], P.ro, P.rc, P.rs⟩ b) (N := []) (F := [.row 9 1 (.slice t2.fo t2.fs.length t2.fc) t2.fs.length (E.strC t2.fs), .row 4 1 (.slice t2.mo t2.ms.length t2.mc) t2.ms.length (E.boolC t2.ms)]) (A := P.rs.map Rk.row) h1
theorem p_make {w0 w : World} {b : Nat} {P : Pst} {EE X : List Ck} (hP : PL w0 X P) (hE : zv EE) {vo : Option Addr} {vc : Nat} {vs : List Dt} (hV : ∀ w1, Mg w0 w1 EE → Rt w1 vo vs ∧ ∀ d ∈ vs, d.rd w1) (hvb : Tr.bulks (vs.map Dt.tr) ≤ 1000000000) (hT : ∀ w1, Mg w0 w1 EE → Tabs8 w1) (t : Int) (M : Mg w0 w (EE ++ (P.pcs b ++ X))) : Calls Tryz.prog 10 #[.pointer (some ⟨b, 0, none⟩), .int .i64 t, .slice vo vs.length vc] w fun e w' => ∃ (P' : Pst) (F : List Ck), e = .returned (.tuple #[.int .i64 (mkS P.ks P.rs.length t (vs.map Dt.tr)).1, .int .i64 (mkS P.ks P.rs.length t (vs.map Dt.tr)).2.1]) ∧ (PL w0 (F ++ X) P' ∧ P'.ks = P.ks ∧ P'.rr = (if (mkS P.ks P.rs.length t (vs.map Dt.tr)).2.2 = true then P.rr ++ [(t.toNat, vs.map Dt.tr)] else P.rr)) ∧ Mg w0 w' (EE ++ (P'.pcs b ++ (F ++ X))) := by
 have S := hP.sr M
 have hW := hP.ws
 have hEM : Mg w0 w EE := M.sub (List.sublist_append_left _ _)
 have hvl := vh vs
 cases hq : (mkS P.ks P.rs.length t (vs.map Dt.tr)).2.2 with
 | false =>
  refine (make_no S hW (hV w hEM).1 (hV w hEM).2 (by omega) (hT w hEM) hq).mono ?_
  rintro e w' ⟨rfl, h1⟩
  exact ⟨P, [], rfl, ⟨hP, rfl, by rw [if_neg (by decide)]⟩, M.call h1⟩
 | true =>
  have key : okT P.ts.length t = true ∧ vs.length = cnt P.ks t ∧ (vs.map Dt.tr).all (jf zp) = true ∧ P.rs.length < 20000 ∧ mkS P.ks P.rs.length t (vs.map Dt.tr) = (((P.rs.length : Nat) : Int), 0, true) := by
   unfold mkS at hq
   split at hq
   ·
    rename_i h1
    rw [Pst.ks, List.length_map] at h1
    split at hq
    ·
     rename_i h2
     split at hq
     ·
      rename_i h3
      split at hq
      ·
       rename_i h4; exact ⟨h1, by rw [← h2, List.length_map], h3, h4, mkS_ok h1 h2 h3 h4⟩
      ·
       cases hq
     ·
      cases hq
    ·
     cases hq
   ·
    cases hq
  obtain ⟨k1, k2, k3, k4, k5⟩ := key
  refine (make_ok (qjg hE hP) hW (fun w1 h1 => sr_of hP h1) (toP M) (inE hV) hvb (inE hT) k1 k2 k3 k4).mono ?_
  rintro e w' ⟨us, so6, ca6, ro', rc', F, rfl, ⟨htr, hL, hF⟩, h1⟩
  have hrr : (P.rs ++ [Rk.mk t.toNat so6 ca6 us]).map Rk.k = P.rr ++ [(t.toNat, vs.map Dt.tr)] := by rw [List.map_append, List.map_cons, List.map_nil, ← htr]; rfl
  refine ⟨⟨P.tz, P.tc, P.ts, ro', rc', P.rs ++ [Rk.mk t.toNat so6 ca6 us]⟩, F, by rw [k5], ⟨⟨fun y hy w9 h9 => hP.ty y hy w9 (h9.sub (List.sublist_append_right _ _)), ?_, ?_, jd hF hP.nb⟩, rfl, by rw [if_pos rfl]; exact hrr⟩, ?_⟩
  ·
   intro r hr d hd w9 h9
   rcases List.mem_append.1 hr with h | h
   ·
    exact hP.da r h d hd w9 (h9.sub (List.sublist_append_right _ _))
   ·
    rw [List.mem_singleton.1 h] at hd
    exact hL d hd _ w9 (h9.sub (List.sublist_append_left _ _))
  ·
   show WS P.ks ((P.rs ++ [Rk.mk t.toNat so6 ca6 us]).map Rk.k)
   rw [hrr]
   exact ws_make hW (by rw [Pst.rr, List.length_map]; exact hq) (bulk_each hvb)
  ·
   refine addF (hd := Pst.head ⟨P.tz, P.tc, P.ts, ro', rc', P.rs ++ [Rk.mk t.toNat so6 ca6 us]⟩ b) (N := []) (F := F) (A := (P.rs ++ [Rk.mk t.toNat so6 ca6 us]).map Rk.row) ?_
   refine Mg.perm h1 ?_
   rw [List.map_append]
   show List.Perm (Pst.head ⟨P.tz, P.tc, P.ts, ro', rc', P.rs ++ [Rk.mk t.toNat so6 ca6 us]⟩ b ++ ([(Rk.mk t.toNat so6 ca6 us).row] ++ (F ++ (P.rs.map Rk.row ++ (X ++ EE))))) _
   refine List.Perm.append_left _ ?_
   refine (List.perm_append_comm_assoc _ F _).trans (List.Perm.append_left F ?_)
   rw [List.append_assoc]
   exact List.perm_append_comm_assoc _ _ _
theorem row_put {rs : List Rk} : ∀ {j : Nat} {x : Rk} (y : Rk), rs[j]? = some x → (rs.map Rk.row).Perm (x.row :: (rs.eraseIdx j).map Rk.row) ∧ ((rs.set j y).map Rk.row).Perm (y.row :: (rs.eraseIdx j).map Rk.row) := by
 induction rs with
 | nil => intro j x y h; simp at h
 | cons a l ih =>
  intro j x y h
  cases j with
  | zero => cases h; exact ⟨.refl _, .refl _⟩
  | succ j =>
   obtain ⟨h1, h2⟩ := ih y (show l[j]? = some x by simpa using h)
   exact ⟨(h1.cons _).trans (.swap _ _ _), (h2.cons _).trans (.swap _ _ _)⟩
theorem p_set {w0 w : World} {b : Nat} {P : Pst} {EE X : List Ck} (hP : PL w0 X P) (hE : zv EE) {v : Dt} (hv : ∀ w1, Mg w0 w1 EE → v.rd w1) (hvb : v.tr.bulk ≤ 1000000000) (hT : ∀ w1, Mg w0 w1 EE → Tabs8 w1) (r t i : Int) (M : Mg w0 w (EE ++ (P.pcs b ++ X))) : Calls Tryz.prog 16 #[.pointer (some ⟨b, 0, none⟩), .int .i64 r, .int .i64 t, .int .i64 i, .agg (v.d.cells v.ts.length).toArray] w fun e w' => ∃ (P' : Pst) (F : List Ck), e = .returned (.int .i64 (seS P.ks P.rr r t i v.tr)) ∧ (PL w0 (F ++ X) P' ∧ P'.ks = P.ks ∧ P'.rr = (if seS P.ks P.rr r t i v.tr = 0 then qmd P.rr r.toNat (plS P.ks P.rr r t i).1.toNat v.tr else P.rr)) ∧ Mg w0 w' (EE ++ (P'.pcs b ++ (F ++ X))) := by
 have S := hP.sr M
 have hW := hP.ws
 have hEM : Mg w0 w EE := M.sub (List.sublist_append_left _ _)
 by_cases hq : seS P.ks P.rr r t i v.tr = 0
 ·
  have key : (plS P.ks P.rr r t i).2 = 0 ∧ jf zp v.tr = true ∧ (((P.ks[t.toNat]?).map fun k => (k.ms[i.toNat]?).getD false).getD false) = true := by
   have hq0 := hq
   unfold seS at hq
   split at hq
   ·
    rename_i h1
    split at hq
    ·
     rename_i h2
     split at hq
     ·
      rename_i h3; exact ⟨h1, h2, h3⟩
     ·
      exact absurd hq (by decide)
    ·
     exact absurd hq (by decide)
   ·
    rename_i h1; exact absurd hq h1
  obtain ⟨k1, k2, k3⟩ := key
  obtain ⟨x9, k9, hx9, hk9, p1, p2, p3, p4, p5, p6, p7, p8, p9, p10⟩ := pl_in hW k1
  have hr2 : r.toNat < P.rs.length := by rw [Pst.rr, List.length_map] at p2; omega
  have hx : P.rs[r.toNat]? = some (P.rs[r.toNat]) := List.getElem?_eq_getElem hr2
  generalize P.rs[r.toNat] = x at hx
  have hxk := xf hx
  have hexk : x9 = x.k := Option.some.inj (hx9.symm.trans hxk)
  subst hexk
  have hpm : (P.rs.map Rk.row ++ (X ++ EE)).Perm (x.row :: ((P.rs.eraseIdx r.toNat).map Rk.row ++ (X ++ EE))) := (row_put x hx).1.append_right _
  refine (set_ok (x := x) (Y := (P.rs.eraseIdx r.toNat).map Rk.row ++ (X ++ EE)) (jd (vj _) (jd hP.nb hE)) hW (fun w1 h1 => sr_of hP (h1.perm (List.Perm.append_left (P.head b) hpm.symm))) ((toP M).perm (List.Perm.append_left (P.head b) hpm)) (fun w1 h1 => hv w1 (h1.sub ((List.sublist_append_right _ _).trans (List.sublist_append_right _ _)))) hvb (fun w1 h1 => hT w1 (h1.sub ((List.sublist_append_right _ _).trans (List.sublist_append_right _ _)))) hx k1 k2 k3).mono ?_
  rintro e w' ⟨v2, F, rfl, ⟨ht2, hL, hF⟩, h1⟩
  have hlen : (x.vs.set (plS P.ks P.rr r t i).1.toNat v2).length = x.vs.length := List.length_set
  have hln2 : (P.rs.set r.toNat (Rk.mk x.kd x.vo x.vc (x.vs.set (plS P.ks P.rr r t i).1.toNat v2))).length = P.rs.length := List.length_set
  have hrr : (P.rs.set r.toNat (Rk.mk x.kd x.vo x.vc (x.vs.set (plS P.ks P.rr r t i).1.toNat v2))).map Rk.k = qmd P.rr r.toNat (plS P.ks P.rr r t i).1.toNat v.tr := by
   rw [rset_at hx9, List.map_set]
   show (P.rs.map Rk.k).set _ (x.kd, (x.vs.set (plS P.ks P.rr r t i).1.toNat v2).map Dt.tr) = _
   rw [List.map_set, ht2]; rfl
  have hcc : qn Rk.c (P.rs.set r.toNat (Rk.mk x.kd x.vo x.vc (x.vs.set (plS P.ks P.rr r t i).1.toNat v2))) = qn Rk.c P.rs := by
   rw [← catC_set qgb _ hr2]
   refine over_take ?_
   show ((qn Rk.c P.rs).drop _).take 2 = [.int .i64 ((x.kd : Nat) : Int), .slice x.vo (x.vs.set (plS P.ks P.rr r t i).1.toNat v2).length x.vc]
   rw [hlen, catC_at qgb hx]; rfl
  refine ⟨⟨P.tz, P.tc, P.ts, P.ro, P.rc, P.rs.set r.toNat (Rk.mk x.kd x.vo x.vc (x.vs.set (plS P.ks P.rr r t i).1.toNat v2))⟩, F, by rw [hq], ⟨⟨fun y hy w9 h9 => hP.ty y hy w9 (h9.sub (List.sublist_append_right _ _)), ?_, ?_, jd hF hP.nb⟩, rfl, by rw [if_pos hq]; exact hrr⟩, ?_⟩
  ·
   intro y hy d hd w9 h9
   have h9X := h9.sub (List.sublist_append_right F X)
   rcases yu hy with h | h
   ·
    exact hP.da y h d hd w9 h9X
   ·
    rw [h] at hd
    rcases yu hd with h | h
    ·
     exact hP.da x (List.mem_of_getElem? hx) d h w9 h9X
    ·
     rw [h]; exact hL _ w9 (h9.sub (List.sublist_append_left _ _))
  ·
   show WS P.ks ((P.rs.set r.toNat (Rk.mk x.kd x.vo x.vc (x.vs.set (plS P.ks P.rr r t i).1.toNat v2))).map Rk.k)
   rw [hrr]
   exact ws_set hW hvb
  ·
   refine addF (hd := Pst.head ⟨P.tz, P.tc, P.ts, P.ro, P.rc, P.rs.set r.toNat (Rk.mk x.kd x.vo x.vc (x.vs.set (plS P.ks P.rr r t i).1.toNat v2))⟩ b) (N := []) (F := F) (A := (P.rs.set r.toNat (Rk.mk x.kd x.vo x.vc (x.vs.set (plS P.ks P.rr r t i).1.toNat v2))).map Rk.row) ?_
   have eh : Pst.head ⟨P.tz, P.tc, P.ts, P.ro, P.rc, P.rs.set r.toNat (Rk.mk x.kd x.vo x.vc (x.vs.set (plS P.ks P.rr r t i).1.toNat v2))⟩ b = P.head b := by
    show [_, _, Ck.row _ _ (.slice P.ro (P.rs.set r.toNat _).length P.rc) (P.rs.set r.toNat _).length (qn Rk.c (P.rs.set r.toNat _))] = _
    rw [hcc, hln2]; rfl
   rw [eh]
   refine Mg.perm h1 ?_
   show List.Perm (P.head b ++ (.row 42 11 (.slice x.vo x.vs.length x.vc) x.vs.length (qi (x.vs.set (plS P.ks P.rr r t i).1.toNat v2)) :: (F ++ ((P.rs.eraseIdx r.toNat).map Rk.row ++ (X ++ EE))))) _
   refine List.Perm.append_left _ ?_
   refine List.Perm.trans ?_ (List.Perm.append_left F ((row_put (Rk.mk x.kd x.vo x.vc (x.vs.set (plS P.ks P.rr r t i).1.toNat v2)) hx).2.symm.append_right _))
   rw [show (Rk.mk x.kd x.vo x.vc (x.vs.set (plS P.ks P.rr r t i).1.toNat v2)).row = Ck.row 42 11 (.slice x.vo x.vs.length x.vc) x.vs.length (qi (x.vs.set (plS P.ks P.rr r t i).1.toNat v2)) from by unfold Rk.row; rw [hlen]]
   exact (List.perm_append_comm_assoc F [_] _).symm
 ·
  refine (set_no S hW (hv w hEM) (hT w hEM) hq).mono ?_
  rintro e w' ⟨rfl, h1⟩
  exact ⟨P, [], rfl, ⟨hP, rfl, by rw [if_neg hq]⟩, M.call h1⟩
def kD (k n : Int) : Dt := .mk ⟨k, n, ⟨Q6.zero, none, 0, none, 0, none, 0, none, 0⟩, ⟨#[]⟩, none, 0, [], none, 0⟩ []
def kT (k n : Int) : Tr := .mk k n Q6.zero ⟨#[]⟩ [] []
theorem uu (k n : Int) : (kD k n).tr = kT k n := by unfold kD kT; rw [Dt.tr_mk]; rfl
theorem kD_rd (w : World) {k n : Int} (h0 : -9223372036854775808 ≤ k) (h1 : k ≤ 9223372036854775807) (h2 : -9223372036854775808 ≤ n) (h3 : n ≤ 9223372036854775807) : (kD k n).rd w :=
  Dt.rd_iff.2 ⟨⟨⟨Sc.none w, Sc.none w, Sc.none w, Sc.none w⟩, qed, ⟨fun h => absurd rfl h⟩, Nat.le_refl _, by show (0 : Nat) ≤ _; omega, h0, h1, h2, h3, by show (0 : Nat) ≤ _; omega⟩, Nat.le_refl _, by show (0 : Nat) ≤ _; omega, fun h => absurd rfl h, fun t h => by cases h⟩
theorem tr_n {t u : Dt} (h : t.tr = u.tr) : t.d.n = u.d.n := by
  cases t with
  | mk d ts =>
    cases u with
    | mk e us =>
      rw [Dt.tr_mk, Dt.tr_mk] at h
      injection h
theorem kT_bulk (k n : Int) : (kT k n).bulk ≤ 1 := by unfold kT; rw [ud]; decide
theorem char_s {n : Int} (h0 : 0 ≤ n) (h1 : n ≤ 255) : jf zp (kT 4 n) = true := by
  have key : ∀ m : Fin 256, jf zp (kT 4 ((m.val : Nat) : Int)) = true := by decide +kernel
  have := key ⟨n.toNat, by omega⟩
  rwa [show ((n.toNat : Nat) : Int) = n by omega] at this
theorem RcG_is1_3 : Is1 Tryz.prog 3 := ⟨⟨_, Tryz.underlying3, rfl⟩, by kernel_rfl⟩
theorem RcG_fld_42_1 : FieldAt Tryz.prog 42 1 1 := ⟨_, _, Tryz.underlying42, rfl, rfl, by kernel_rfl⟩
theorem new_any {w : World} : Calls Tryz.prog 7 #[] w fun e w' => ∃ g, e = .returned (.pointer (some ⟨g, 0, none⟩)) ∧ Mg w w' ((⟨none, 0, [], none, 0, []⟩ : Pst).pcs g) := by
 have M : Mg w w ([]) := Mg.start w
 refine qp (l := []) Tryz.func7 rfl Tryz.ntmps7 rfl rfl ?_
 intro Q hret hnorm hP a A
 refine wsk fun K1 hK1 => wrl (sda A λa A↦?_)
 refine qa (hK1 _ _ (wsk fun K2 hK2 => wrl (sdo (v := .agg #[.slice none 0 0, .slice none 0 0]) A (zj rfl (fun w => by kernel_rfl)) λa A↦?_)))
 refine zw (vs := [.slice none 0 0, .slice none 0 0]) (t := 73) A M rfl rfl rfl pg (zk rfl rfl) (by decide) ?_
 intro g3 w4 M a A
 refine sda A λa A↦?_
 refine qa (hK2 _ _ (wp_ret (hret _ _ (en1 A rfl (qg rfl) ?_))))
 have hM2 := (M.nilRow (qh (by simp) (qk qm)) 86 2).nilRow (qh (by simp) (qh (by simp) (qk qm))) 33 7
 exact ⟨_, rfl, hM2.perm ((List.Perm.cons _ (List.Perm.swap _ _ _)).trans (List.Perm.swap _ _ _))⟩
theorem qjh (g : Nat) : zv ((⟨none, 0, [], none, 0, []⟩ : Pst).pcs g) := jd (yv _ _) (vj _)
theorem pl0 (w0 : World) : PL w0 [] (⟨none, 0, [], none, 0, []⟩ : Pst) := ⟨fun t h => (by cases h), fun r h => (by cases h), ws_nil, fun c h => (by cases h)⟩
def awK : TK := ⟨⟨#[112]⟩, -1, [⟨#[120]⟩], [true], false, false, ⟨#[]⟩⟩
theorem aw_ty : tyS [] awK = (0, 0, true) := by decide +kernel
theorem aw_mk : mkS [awK] 0 0 [kT 2 1] = (0, 0, true) := by decide +kernel
theorem aw_pl : plS [awK] [(0, [kT 2 1])] 0 0 0 = (0, 0) := by decide +kernel
theorem aw_gt : gtT [awK] [(0, [kT 2 1])] 0 0 0 = kT 2 1 := by unfold gtT; rw [aw_pl]; rfl
theorem p_type1 {w0 w : World} {b : Nat} {P : Pst} {EE X : List Ck} (hP : PL w0 X P) (hE : zv EE) {u : Ty} (hU : ∀ w1, Mg w0 w1 EE → TyR w1 u) (hul : u.fs.length ≤ 2000000) (hum : u.ms.length ≤ 2000000) (hz1 : u.nm.size ≤ 281474976710656) (hz2 : u.ui.size ≤ 281474976710656) (huz : ∀ s ∈ u.fs, s.size ≤ 281474976710656) {a : Int} (hz : tyS P.ks u.k = (a, 0, true)) (M : Mg w0 w (EE ++ (P.pcs b ++ X))) : Calls Tryz.prog 8 #[.pointer (some ⟨b, 0, none⟩), .agg u.c.toArray] w fun e w' => ∃ (P' : Pst) (F : List Ck), e = .returned (.tuple #[.int .i64 a, .int .i64 0]) ∧ (PL w0 (F ++ X) P' ∧ P'.ks = P.ks ++ [u.k] ∧ P'.rr = P.rr) ∧ Mg w0 w' (EE ++ (P'.pcs b ++ (F ++ X))) := by
 have h := p_type hP hE hU hul hum hz1 hz2 huz M
 rw [hz] at h
 exact h
theorem p_make1 {w0 w : World} {b : Nat} {P : Pst} {EE X : List Ck} (hP : PL w0 X P) (hE : zv EE) {vo : Option Addr} {vc : Nat} {vs : List Dt} (hV : ∀ w1, Mg w0 w1 EE → Rt w1 vo vs ∧ ∀ d ∈ vs, d.rd w1) (hvb : Tr.bulks (vs.map Dt.tr) ≤ 1000000000) (hT : ∀ w1, Mg w0 w1 EE → Tabs8 w1) (t : Int) {ks : List TK} {n : Nat} {trs : List Tr} {a : Int} (hks : P.ks = ks) (hn : P.rs.length = n) (htr : vs.map Dt.tr = trs) (hz : mkS ks n t trs = (a, 0, true)) (M : Mg w0 w (EE ++ (P.pcs b ++ X))) : Calls Tryz.prog 10 #[.pointer (some ⟨b, 0, none⟩), .int .i64 t, .slice vo vs.length vc] w fun e w' => ∃ (P' : Pst) (F : List Ck), e = .returned (.tuple #[.int .i64 a, .int .i64 0]) ∧ (PL w0 (F ++ X) P' ∧ P'.ks = ks ∧ P'.rr = P.rr ++ [(t.toNat, trs)]) ∧ Mg w0 w' (EE ++ (P'.pcs b ++ (F ++ X))) := by
 have h := p_make (vc := vc) hP hE hV hvb hT t M
 rw [hks, hn, htr, hz] at h
 exact h
theorem p_get {w0 w : World} {b : Nat} {P : Pst} {EE X : List Ck} (hP : PL w0 X P) (r t i : Int) {ks : List TK} {rr : List (Nat × List Tr)} (hks : P.ks = ks) (hrr : P.rr = rr) (M : Mg w0 w (EE ++ (P.pcs b ++ X))) : Calls Tryz.prog 13 #[.pointer (some ⟨b, 0, none⟩), .int .i64 r, .int .i64 t, .int .i64 i] w fun e w' => ∃ d2 : Dt, e = .returned (.tuple #[.agg (d2.d.cells d2.ts.length).toArray, .int .i64 (plS ks rr r t i).2]) ∧ (d2.rd w' ∧ d2.tr = gtT ks rr r t i) ∧ Mg w0 w' (EE ++ (P.pcs b ++ X)) := by
 subst hks hrr
 refine (get_any (hP.sr M) hP.ws).mono ?_
 rintro e w' ⟨d2, h1, h2, h3⟩
 exact ⟨d2, h1, ⟨h2.1, h2.2.1⟩, M.call h3⟩
theorem awake_any {w : World} (hT : Tabs8 w) : Calls Tryz.prog 6 #[] w fun e w' => e = .returned (.bool true) ∧ Below w.heap.size w w' := by
 have M : Mg w w ([]) := Mg.start w
 refine qp (l := []) Tryz.func6 rfl Tryz.ntmps6 rfl rfl ?_
 intro Q hret hnorm hP a A
 refine wsk fun K1 hK1 => wrl (sda A λa A↦?_)
 refine qa (hK1 _ _ (wsk fun K2 hK2 => wrl (sct A (ef rfl rfl) (new_any) ?_)))
 rintro _ w5 ⟨g4, rfl, hM3⟩
 replace M : Mg w w5 (((⟨none, 0, [], none, 0, []⟩ : Pst).pcs g4 ++ [])) := (show Mg _ _ ([] ++ ((⟨none, 0, [], none, 0, []⟩ : Pst).pcs g4 ++ [])) from (by rw [List.append_nil]; exact (M.both hM3 (qk qm) (qjh g4)).perm List.perm_append_comm))
 refine ⟨_, rfl, ?_⟩
 intro a A
 refine sda A λa A↦?_
 refine qa (hK2 _ _ (wsk fun K6 hK6 => wsk fun K7 hK7 => wrl (sdm A λa A↦?_)))
 refine sdo (v := .bool false) A (qf rfl rfl (fun w => by kernel_rfl)) λa A↦?_
 refine qa (hK7 _ _ (wp_cond_false (A.ev rfl) ?_))
 refine wp_skip (hK6 _ _ (wsk fun K8 hK8 => wrl (sdm A λa A↦?_)))
 refine ve (e := 9) (sz := 1) (m := 1) (vs := E.strC [⟨#[120]⟩]) A M rfl rfl rfl (qx rfl (by kernel_rfl)) rfl rfl (.inl (by decide)) ?_
 intro g9 w10 M a A
 refine ve (e := 4) (sz := 1) (m := 1) (vs := E.boolC [true]) A M rfl rfl rfl (qx rfl (by kernel_rfl)) rfl rfl (.inl (by decide)) ?_
 intro g11 w12 M a A
 refine sdo (v := .agg #[.string (⟨#[112]⟩), .int .i64 (-1), .slice (some ⟨g9, 0, none⟩) 1 1, .slice (some ⟨g11, 0, none⟩) 1 1, .bool false, .bool false, .string (⟨#[]⟩)]) A (zj rfl (fun w => by kernel_rfl)) λa A↦?_
 refine sct A (ef rfl rfl) (p_type1 (EE := [.row 4 1 (.slice (some ⟨g11, 0, none⟩) 1 1) 1 (E.boolC [true]), .row 9 1 (.slice (some ⟨g9, 0, none⟩) 1 1) 1 (E.strC [⟨#[120]⟩])]) (pl0 w) (qh (by simp) (qh (by simp) (qk qm))) (u := (⟨⟨#[112]⟩, -1, some ⟨g9, 0, none⟩, 1, [⟨#[120]⟩], some ⟨g11, 0, none⟩, 1, [true], false, false, ⟨#[]⟩⟩ : Ty)) (fun w1 h1 => ⟨E.rc_own (h1.has 1 rfl), E.rc_own (h1.has 0 rfl)⟩) (show 1 ≤ 2000000 by decide) (show 1 ≤ 2000000 by decide) (show (⟨#[112]⟩ : ByteArray).size ≤ 281474976710656 by decide) (show (⟨#[]⟩ : ByteArray).size ≤ 281474976710656 by decide) (fun s hs => by rw [List.mem_singleton.1 hs]; decide) aw_ty M) ?_
 rintro _ w14 ⟨P1, F1, rfl, ⟨hP1, hk1, hr1⟩, hM13⟩
 replace M : Mg w w14 (.row 4 1 (.slice (some ⟨g11, 0, none⟩) 1 1) 1 (E.boolC [true]) :: .row 9 1 (.slice (some ⟨g9, 0, none⟩) 1 1) 1 (E.strC [⟨#[120]⟩]) :: (P1.pcs g4 ++ (F1 ++ []))) := hM13
 refine ⟨_, rfl, ?_⟩
 intro a A
 refine sdm A λa A↦?_
 iterate 2 refine sdo A (ze (vs := [.int .i64 0, .int .i64 0]) rfl rfl) λa A↦?_
 iterate 2 refine sda A λa A↦?_
 refine qa (hK8 _ _ (wsk fun K15 hK15 => wrl ?_))
 iterate 2 refine sdm A λa A↦?_
 refine sdo (v := .agg ((kD 2 1).d.cells (kD 2 1).ts.length).toArray) A (zj rfl (fun w => by kernel_rfl)) λa A↦?_
 refine ve (e := 42) (sz := 11) (m := 1) (vs := qi [(kD 2 1)]) A M rfl rfl rfl (qx rfl (by kernel_rfl)) rfl rfl (.inl (by decide)) ?_
 intro g16 w17 M a A
 refine sct A (ef rfl rfl) (p_make1 (EE := [.row 42 11 (.slice (some ⟨g16, 0, none⟩) 1 1) 1 (qi [(kD 2 1)]), .row 4 1 (.slice (some ⟨g11, 0, none⟩) 1 1) 1 (E.boolC [true]), .row 9 1 (.slice (some ⟨g9, 0, none⟩) 1 1) 1 (E.strC [⟨#[120]⟩])]) (vs := [kD 2 1]) hP1 (qh (by simp) (qh (by simp) (qh (by simp) (qk qm)))) (fun w1 h1 => ⟨(qfj (h1.has 0 rfl)).1, fun d hd => by rw [List.mem_singleton.1 hd]; exact kD_rd _ (by decide) (by decide) (by decide) (by decide)⟩) (by decide +kernel) (fun w1 h1 => hT.below h1.bel) 0 (show P1.ks = [awK] from hk1) (by have h8 := congrArg List.length hr1; rw [Pst.rr, List.length_map] at h8; exact h8) (show [kD 2 1].map Dt.tr = [kT 2 1] by rw [List.map_cons, List.map_nil, uu]) aw_mk M) ?_
 rintro _ w19 ⟨P2, F2, rfl, ⟨hP2, hk2, hr2⟩, hM18⟩
 replace M : Mg w w19 (.row 42 11 (.slice (some ⟨g16, 0, none⟩) 1 1) 1 (qi [(kD 2 1)]) :: .row 4 1 (.slice (some ⟨g11, 0, none⟩) 1 1) 1 (E.boolC [true]) :: .row 9 1 (.slice (some ⟨g9, 0, none⟩) 1 1) 1 (E.strC [⟨#[120]⟩]) :: (P2.pcs g4 ++ (F2 ++ (F1 ++ [])))) := hM18
 refine ⟨_, rfl, ?_⟩
 intro a A
 refine sdm A λa A↦?_
 iterate 2 refine sdo A (ze (vs := [.int .i64 0, .int .i64 0]) rfl rfl) λa A↦?_
 iterate 2 refine sda A λa A↦?_
 refine qa (hK15 _ _ (wsk fun K20 hK20 => wrl ?_))
 iterate 3 refine sdm A λa A↦?_
 refine sct A (ef rfl rfl) (p_get (EE := [.row 42 11 (.slice (some ⟨g16, 0, none⟩) 1 1) 1 (qi [(kD 2 1)]), .row 4 1 (.slice (some ⟨g11, 0, none⟩) 1 1) 1 (E.boolC [true]), .row 9 1 (.slice (some ⟨g9, 0, none⟩) 1 1) 1 (E.strC [⟨#[120]⟩])]) hP2 0 0 0 hk2 (show P2.rr = [(0, [kT 2 1])] by rw [hr2, hr1]; rfl) M) ?_
 rintro _ w22 ⟨d2, rfl, ⟨hd2, hdt2⟩, hM21⟩
 have hn2 : d2.d.n = 1 := tr_n (u := kD 2 1) (hdt2.trans (aw_gt.trans (uu 2 1).symm))
 replace M : Mg w w22 (.row 42 11 (.slice (some ⟨g16, 0, none⟩) 1 1) 1 (qi [(kD 2 1)]) :: .row 4 1 (.slice (some ⟨g11, 0, none⟩) 1 1) 1 (E.boolC [true]) :: .row 9 1 (.slice (some ⟨g9, 0, none⟩) 1 1) 1 (E.strC [⟨#[120]⟩]) :: (P2.pcs g4 ++ (F2 ++ (F1 ++ [])))) := hM21
 refine ⟨_, rfl, ?_⟩
 intro a A
 refine sdm A λa A↦?_
 iterate 2 refine sdo A (ze (vs := [.agg (d2.d.cells d2.ts.length).toArray, .int .i64 0]) rfl rfl) λa A↦?_
 refine zw (vs := (jg.d.cells jg.ts.length)) (t := 42) A M rfl rfl rfl pg (zi (z := .agg (jg.d.cells jg.ts.length).toArray) (by kernel_rfl) rfl) (by decide) ?_
 intro g23 w24 M a A
 refine zh (us := (d2.d.cells d2.ts.length)) (L' := (.obj g23 (.cells (d2.d.cells d2.ts.length).toArray 42) :: .row 42 11 (.slice (some ⟨g16, 0, none⟩) 1 1) 1 (qi [(kD 2 1)]) :: .row 4 1 (.slice (some ⟨g11, 0, none⟩) 1 1) 1 (E.boolC [true]) :: .row 9 1 (.slice (some ⟨g9, 0, none⟩) 1 1) 1 (E.strC [⟨#[120]⟩]) :: (P2.pcs g4 ++ (F2 ++ (F1 ++ []))))) A M rfl rfl (qz rfl rfl rfl (by kernel_rfl) M 0 rfl rfl rfl) 0 rfl rfl rfl ?_
 intro w25 M
 refine sda A λa A↦?_
 refine qa (hK20 _ _ (wsk fun K26 hK26 => wrl (sdm A λa A↦?_)))
 refine sdo (v := .bool true) A (qf rfl rfl (fun w => by kernel_rfl)) λa A↦?_
 iterate 2 refine sdm A λa A↦?_
 refine sdo (v := .bool true) A (qf rfl rfl (fun w => by kernel_rfl)) λa A↦?_
 refine sdk (v := .bool true) A λa A↦?_
 iterate 2 refine sdm A λa A↦?_
 refine sdo (v := .bool true) A (qf rfl rfl (fun w => by kernel_rfl)) λa A↦?_
 refine sdk (v := .bool true) A λa A↦?_
 refine sdm A λa A↦?_
 refine sdo (v := .pointer (some ⟨g23, 1, none⟩)) A (qb RcG_fld_42_1 rfl rfl) λa A↦?_
 refine sdo A (qj M RcG_is1_3 rfl 0 rfl rfl) λa A↦?_
 refine sdo (v := .bool true) A (qf rfl rfl (fun w => (qw w).trans (by rw [show ((d2.d.n == 1)) = true from (by rw [hn2]; rfl)]))) λa A↦?_
 refine sdk (v := .bool true) A λa A↦?_
 refine sda A λa A↦?_
 refine qa (hK26 _ _ (wp_ret (hret _ _ (en1 A rfl (qg rfl) ?_))))
 exact ⟨rfl, M.bel⟩
def ltr (j : Nat) : ByteArray := ⟨#[UInt8.ofNat (97 + j)]⟩
def fld (k : Nat) : List ByteArray := (List.range k).map ltr
def mts (k : Nat) : List Bool := (List.range k).map fun j => decide (j % 2 = 0)
def tk (p : Int) (k : Nat) : TK := ⟨⟨#[116]⟩, p, fld k, mts k, false, false, ⟨#[]⟩⟩
def cK (zs : List Nat) : List TK := zs.mapIdx fun i k => tk (((i : Nat) : Int) - 1) k
def vls (n : Nat) : List Tr := (List.range n).map fun i => kT 4 ((100 + i : Nat) : Int)
theorem fld_succ (k : Nat) : fld (k + 1) = fld k ++ [ltr k] := by unfold fld; rw [List.range_succ, List.map_append]; rfl
theorem mts_succ (k : Nat) : mts (k + 1) = mts k ++ [decide (k % 2 = 0)] := by unfold mts; rw [List.range_succ, List.map_append]; rfl
theorem vr (k : Nat) : (fld k).length = k := by simp [fld]
theorem qhd (k : Nat) : (mts k).length = k := by simp [mts]
theorem cK_snoc (zs : List Nat) (k : Nat) : cK (zs ++ [k]) = cK zs ++ [tk (((zs.length : Nat) : Int) - 1) k] := by unfold cK; rw [List.mapIdx_concat]
theorem uq (zs : List Nat) : (cK zs).length = zs.length := by simp [cK]
theorem qcj {zs : List Nat} {i k : Nat} (h : zs[i]? = some k) : (cK zs)[i]? = some (tk (((i : Nat) : Int) - 1) k) := by unfold cK; rw [List.getElem?_mapIdx, h]; rfl
theorem qda {zs : List Nat} {i k : Nat} (h : zs[i]? = some k) : (zs.take (i + 1)).sum = (zs.take i).sum + k := by
  rw [List.take_add_one, h, Option.toList_some, List.sum_append]; simp
theorem take_le (zs : List Nat) (i : Nat) : (zs.take i).sum ≤ zs.sum := by
  have h : (zs.take i ++ zs.drop i).sum = zs.sum := by rw [List.take_append_drop]
  rw [List.sum_append] at h
  omega
section
variable {zs : List Nat} {rr : List (Nat × List Tr)} (hW : WS (cK zs) rr)
include hW
theorem c_cnt : ∀ i : Nat, i < zs.length → cnt (cK zs) ((i : Nat) : Int) = (zs.take (i + 1)).sum
  | 0, h => by
    have e : zs[0]? = some zs[0] := List.getElem?_eq_getElem h
    rw [vz hW.wf (by omega) (show (cK zs)[((0 : Nat) : Int).toNat]? = some _ from qcj e), qda e, qab (by show ((0 : Nat) : Int) - 1 < 0; decide)]
    show (fld zs[0]).length + 0 = (List.take 0 zs).sum + zs[0]
    rw [vr]; simp
  | i + 1, h => by
    have e : zs[i + 1]? = some zs[i + 1] := List.getElem?_eq_getElem h
    rw [vz hW.wf (by omega) (show (cK zs)[((i + 1 : Nat) : Int).toNat]? = some _ from qcj e), qda e]
    show (fld zs[i + 1]).length + cnt (cK zs) (((i + 1 : Nat) : Int) - 1) = _
    rw [vr, show ((i + 1 : Nat) : Int) - 1 = ((i : Nat) : Int) by omega, c_cnt i (by omega), Nat.add_comm]
theorem c_last : cnt (cK zs) (((zs.length : Nat) : Int) - 1) = zs.sum := by
  by_cases h : zs.length = 0
  · rw [qab (by omega), List.length_eq_zero_iff.1 h]; rfl
  · rw [show ((zs.length : Nat) : Int) - 1 = ((zs.length - 1 : Nat) : Int) by omega, c_cnt hW _ (by omega), List.take_of_length_le (by omega)]
theorem c_ty {k : Nat} (hk : k ≤ 3) (hs : zs.sum + k ≤ 16) (hl : zs.length < 8) : tyS (cK zs) (tk (((zs.length : Nat) : Int) - 1) k) = (((zs.length : Nat) : Int), 0, true) := by
  have htw : E.twS (fld k) = false := by
    have key : ∀ m : Fin 4, E.twS (fld m.val) = false := by decide +kernel
    exact key ⟨k, by omega⟩
  have hsl : slP (cK zs) (((zs.length : Nat) : Int) - 1) = false := by
    by_cases h : zs.length = 0
    · exact ym (by omega)
    · have e : zs[zs.length - 1]? = some (zs[zs.length - 1]'(by omega)) := List.getElem?_eq_getElem _
      rw [uh (by omega) (show (cK zs)[(((zs.length : Nat) : Int) - 1).toNat]? = some _ by rw [show (((zs.length : Nat) : Int) - 1).toNat = zs.length - 1 by omega]; exact qcj e)]
      rfl
  rw [qac (u := tk (((zs.length : Nat) : Int) - 1) k) (gd_of (by show (mts k).length = (fld k).length; rw [vr, qhd]) htw (by show -1 ≤ ((zs.length : Nat) : Int) - 1; omega) (by rw [uq]; show ((zs.length : Nat) : Int) - 1 < _; omega)) (by show ¬ 0 ≤ uix (cK zs) ⟨#[]⟩; unfold uix; rw [if_pos (decide_eq_true rfl)]; decide) hsl (by rw [uq]; show cnt (cK zs) (((zs.length : Nat) : Int) - 1) + (fld k).length ≤ 16 ∧ _; rw [c_last hW, vr]; omega), uq]
theorem c_mk (hne : 0 < zs.length) (hs : zs.sum ≤ 16) : mkS (cK zs) 0 (((zs.length : Nat) : Int) - 1) (vls zs.sum) = (0, 0, true) := by
  unfold mkS
  rw [if_pos (by rw [uq]; unfold okT; simp; omega), if_pos (by rw [c_last hW]; simp [vls]), if_pos, if_pos (by decide)]
  · rfl
  · rw [List.all_eq_true]
    intro x hx
    obtain ⟨i, hi, rfl⟩ := List.mem_map.1 hx
    have := List.mem_range.1 hi
    exact char_s (by omega) (by omega)
theorem c_in : ∀ s t : Nat, t ≤ s → s < zs.length → ((t : Nat) : Int) ∈ chT (prs (cK zs)) ((s : Nat) : Int)
  | 0, t, h1, h2 => by
    rw [yj hW.wf (by omega), show t = 0 by omega]
    exact List.mem_cons_self
  | s + 1, t, h1, h2 => by
    have e : zs[s + 1]? = some zs[s + 1] := List.getElem?_eq_getElem h2
    rw [yj hW.wf (by omega), qgc (show (cK zs)[((s + 1 : Nat) : Int).toNat]? = some _ from qcj e)]
    by_cases h : t = s + 1
    · rw [h]; exact List.mem_cons_self
    · refine List.mem_cons_of_mem _ ?_
      show _ ∈ chT (prs (cK zs)) (((s + 1 : Nat) : Int) - 1)
      rw [show ((s + 1 : Nat) : Int) - 1 = ((s : Nat) : Int) by omega]
      exact c_in s t (by omega) (by omega)
theorem c_opq : ∀ t : Int, opq (cK zs) t = false := fun t => by
  unfold opq
  rw [List.any_eq_false]
  intro x hx
  have := yk hW.wf hx
  unfold opq1
  cases e : (cK zs)[x.toNat]? with
  | none => decide
  | some k =>
    have hi := (List.getElem?_eq_some_iff.1 e).1
    rw [uq] at hi
    have e2 : zs[x.toNat]? = some zs[x.toNat] := List.getElem?_eq_getElem hi
    rw [qcj e2] at e
    rw [← Option.some.inj e]
    show ¬ false = true
    decide
end
section
variable {zs : List Nat} {vs : List Tr} (hW : WS (cK zs) [(zs.length - 1, vs)]) (hne : 0 < zs.length)
include hW hne
theorem c_is {t : Nat} (ht : t < zs.length) : isS (cK zs) [(zs.length - 1, vs)] 0 ((t : Nat) : Int) = (true, 0) := by
  unfold isS
  rw [if_pos ⟨rfl, by rw [uq]; unfold okT; simp; omega⟩]
  refine Prod.ext ?_ rfl
  show ((chT (prs (cK zs)) ((zs.length - 1 : Nat) : Int)).any fun z => ((t : Nat) : Int) == z) = true
  exact List.any_eq_true.2 ⟨_, c_in hW (zs.length - 1) t (by omega) (by omega), beq_self_eq_true _⟩
theorem c_pl {t i k : Nat} (ht : zs[t]? = some k) (hi : i < k) : plS (cK zs) [(zs.length - 1, vs)] 0 ((t : Nat) : Int) ((i : Nat) : Int) = ((((zs.take t).sum + i : Nat) : Int), 0) := by
  have hl := (List.getElem?_eq_some_iff.1 ht).1
  have h1 := c_is hW hne hl
  rw [qmb (by rw [h1]) (by rw [h1]) (show (cK zs)[((t : Nat) : Int).toNat]? = some _ from qcj ht) (by omega) (by show ((i : Nat) : Int) < (((fld k).length : Nat) : Int); rw [vr]; omega)]
  show (((cnt (cK zs) (((t : Nat) : Int) - 1) : Nat) : Int) + ((i : Nat) : Int), (0 : Int)) = _
  have hc : cnt (cK zs) (((t : Nat) : Int) - 1) = (zs.take t).sum := by
    cases t with
    | zero => rw [qab (by decide)]; rfl
    | succ t => rw [show ((t + 1 : Nat) : Int) - 1 = ((t : Nat) : Int) by omega, c_cnt hW t (by omega)]
  rw [hc]
  refine Prod.ext ?_ rfl
  show (((zs.take t).sum : Nat) : Int) + ((i : Nat) : Int) = (((zs.take t).sum + i : Nat) : Int)
  omega
theorem c_gt {t i k : Nat} (ht : zs[t]? = some k) (hi : i < k) {d : Tr} (hd : vs[(zs.take t).sum + i]? = some d) : gtT (cK zs) [(zs.length - 1, vs)] 0 ((t : Nat) : Int) ((i : Nat) : Int) = d := by
  have h1 := c_pl hW hne ht hi
  refine gtT_ok (by rw [h1]) (x := (zs.length - 1, vs)) rfl ?_
  rw [h1]
  exact hd
theorem c_se {t i k : Nat} (ht : zs[t]? = some k) (hi : i < k) : seS (cK zs) [(zs.length - 1, vs)] 0 ((t : Nat) : Int) ((i : Nat) : Int) (kT 4 7) = if i % 2 = 0 then 0 else 8 := by
  have h1 := c_pl hW hne ht hi
  rw [qhb (by rw [h1]) (char_s (by decide) (by decide)) (show (cK zs)[((t : Nat) : Int).toNat]? = some _ from qcj ht) (q := decide (i % 2 = 0)) (show (mts k)[((i : Nat) : Int).toNat]? = some _ by rw [Int.toNat_natCast]; unfold mts; rw [List.getElem?_map, List.getElem?_range hi]; rfl)]
  by_cases h : i % 2 = 0
  · rw [if_pos (decide_eq_true h), if_pos h]
  · rw [if_neg (by rw [decide_eq_false h]; decide), if_neg h]
theorem c_tof : uw (cK zs) [(zs.length - 1, vs)] 0 = (((zs.length : Nat) : Int) - 1, 0) := by
  unfold uw
  rw [if_pos (show okT [(zs.length - 1, vs)].length 0 = true from rfl), if_neg (by rw [c_opq hW]; decide)]
  refine Prod.ext ?_ rfl
  show ((zs.length - 1 : Nat) : Int) = _
  omega
end
theorem vls_at {n i : Nat} (h : i < n) : (vls n)[i]? = some (kT 4 ((100 + i : Nat) : Int)) := by unfold vls; rw [List.getElem?_map, List.getElem?_range h]; rfl
theorem ltr_conv (j : Nat) (h : j ≤ 3) : [Value.int .u8 ((97 + j : Nat) : Int)] = Lib.byteCells [UInt8.ofNat (97 + j)] := by
  have key : ∀ m : Fin 4, [Value.int .u8 ((97 + m.val : Nat) : Int)] = Lib.byteCells [UInt8.ofNat (97 + m.val)] := by
    intro m
    match m with
    | ⟨0, _⟩ => rfl
    | ⟨1, _⟩ => rfl
    | ⟨2, _⟩ => rfl
    | ⟨3, _⟩ => rfl
  exact key ⟨j, by omega⟩
end Go.Proofs.YtokgmpjblnpjmaaGreatDoor.G
