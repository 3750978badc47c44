/- Walks of sets: where, sound, membership, members. Walks of the calls of enum. Walks of what a type may be, of types that are the same, and of copies. Records: what the calls answer, case by case. Walks of what is asked of a store. Records: what calls have made xm as it is; a store as pieces of memory. Walks of what changes a store. Walks of calls on a store that are refused, and of calls on nil. Records: what is so of a store xm so. Calls on a store, by its state. Bare data: characters and truth values. -/
import Derived.Test.YtokgmpjblnpjmaaGreatDoorPrecord9d
namespace Go.Proofs.YtokgmpjblnpjmaaGreatDoor.G.E
open Go.RowKit Go.Lib Go.Sort
set_option linter.unusedVariables false
set_option linter.unusedSimpArgs false
set_option maxRecDepth 100000
theorem EnB_is1_9 : Is1 Tryz.prog 9 := ⟨⟨_, Tryz.underlying9, rfl⟩, by kernel_rfl⟩
theorem EnB_isS_111 : IsS Tryz.prog 111 2 := ⟨⟨_, Tryz.underlying111⟩, by kernel_rfl⟩
theorem qjc (m : Nat) : (madeCells (Value.bool false).cells (m * 1)).toList = boolC (List.replicate m false) := by
 apply List.ext_getElem?
 intro j
 by_cases hj : j < m
 ·
  simp [madeCells, boolC, Value.cells, hj, List.getElem?_replicate, Nat.mod_one]
 ·
  simp [madeCells, boolC, Value.cells, hj, List.getElem?_replicate]
theorem boolC_set (bs : List Bool) (i : Nat) (b : Bool) (h : i < bs.length) : over (boolC bs) (i * 1) [.bool b] = boolC (bs.set i b) := by
 rw [qfh (by rw [Nat.mul_one]; simpa [boolC] using h), Nat.mul_one]
 simp [boolC, List.map_set]
/-- What stands where so many were asked. -/
def ko (p : ByteArray → Bool) (l : List ByteArray) (i : Nat) : List Bool := (l.take i).map p ++ List.replicate (l.length - i) false
theorem askT_len (p : ByteArray → Bool) (l : List ByteArray) {i : Nat} (h : i ≤ l.length) : (ko p l i).length = l.length := by
 unfold ko
 rw [List.length_append, List.length_map, List.length_take, List.length_replicate]
 omega
theorem askT_step {p : ByteArray → Bool} {l : List ByteArray} {i : Nat} {s : ByteArray} (h : l[i]? = some s) : (ko p l i).set i (p s) = ko p l (i + 1) := by
 have hi := (List.getElem?_eq_some_iff.1 h).1
 unfold ko
 rw [List.set_append_right _ _ (by rw [List.length_map, List.length_take]; omega), List.length_map, List.length_take, Nat.min_eq_left (by omega), Nat.sub_self, List.take_add_one, h, Option.toList_some, List.map_append, List.append_assoc, show l.length - i = (l.length - (i + 1)) + 1 by omega, List.replicate_succ]
 rfl
theorem askT_full {p : ByteArray → Bool} {l : List ByteArray} {i : Nat} (h : l.length ≤ i) : ko p l i = l.map p := by
 unfold ko
 rw [List.take_of_length_le h, show l.length - i = 0 by omega]
 simp
theorem where_any {w : World} {so : Option Addr} {ca : Nat} {l : List ByteArray} (hR : Rs w so l) (hl : l.length ≤ 8796093021952) (hs : ∀ s ∈ l, s.size ≤ 281474976710656) {f : FuncId} {cs : List Value} {p : ByteArray → Bool} (hF : AskS Tryz.prog f cs w p) : Calls Tryz.prog 79 #[.slice so l.length ca, .func (.func f) #[] cs.toArray] w fun e w' => ∃ so' ca' si' ci', e = .returned (.agg #[.slice so' l.length ca', .slice si' l.length ci']) ∧ Mg w w' [.row 9 1 (.slice so' l.length ca') l.length (strC l), .row 4 1 (.slice si' l.length ci') l.length (boolC (l.map p))] := by
 have M : Mg w w ([]) := Mg.start w
 refine qm (l := [(0, .slice so l.length ca), (1, .func (.func f) #[] cs.toArray)]) Tryz.func79 rfl Tryz.ntmps79 rfl rfl ?_
 intro Q hret hnorm hP a A
 refine wsk fun K1 hK1 => wrl (zp (vs := [.slice none 0 0, .slice none 0 0]) (t := 111) A M rfl rfl rfl pg (zg (z := .agg #[.slice none 0 0, .slice none 0 0]) (by kernel_rfl) rfl) (by decide) ?_)
 intro g2 w3 M a A
 refine qa (hK1 _ _ (wsk fun K4 hK4 => wrl (sdm A λa A↦?_)))
 refine sdo A (qr Tryz.underlying30 rfl) λa A↦?_
 refine s_makeE (z := .bool false) (sz := 1) (by_ := 1) (m := l.length) A M Tryz.underlying31 (by kernel_rfl) rfl rfl rfl rfl rfl rfl (by omega) (by omega) (.inl (by decide)) ?_
 intro g5 w6 M a A
 replace M : Mg w w6 (.row 4 1 (.slice (some ⟨g5, 0, none⟩) l.length l.length) l.length (boolC (List.replicate l.length false)) :: .obj g2 (.cells #[.slice none 0 0, .slice none 0 0] 111) :: []) := by rw [← qjc]; exact M
 refine sda A λa A↦?_
 refine qa (hK4 _ _ (wsk fun K7 hK7 => wsk fun K8 hK8 => wrl (sdm A λa A↦?_)))
 refine sdo A (qr Tryz.underlying30 rfl) λa A↦?_
 refine sdm A λa A↦?_
 refine qa (hK8 _ _ (wp_block ?_))
 replace M : Mg w w6 (.row 4 1 (.slice (some ⟨g5, 0, none⟩) l.length l.length) l.length (boolC (ko p l 0)) :: .obj g2 (.cells #[.slice none 0 0, .slice none 0 0] 111) :: []) := by rw [show ko p l 0 = List.replicate l.length false by simp [ko]]; exact M
 refine jd (fun m_ a w1 => ∃ (i : Nat), m_ = 1 + (l.length - i) ∧ (i ≤ l.length) ∧ Sl a 29 [(0, .slice so l.length ca), (1, .func (.func f) #[] cs.toArray), (4, .pointer (some ⟨g2, 0, none⟩)), (5, .slice (some ⟨g5, 0, none⟩) l.length l.length), (8, .slice so l.length ca), (9, .int .i64 (((l.length : Nat) : Int))), (10, .slice (some ⟨g5, 0, none⟩) l.length l.length), (11, .slice so l.length ca), (12, .int .i64 (((l.length : Nat) : Int))), (13, .int .i64 (((i : Nat) : Int)))] ∧ Mg w w1 (.row 4 1 (.slice (some ⟨g5, 0, none⟩) l.length l.length) l.length (boolC (ko p l i)) :: .obj g2 (.cells #[.slice none 0 0, .slice none 0 0] 111) :: [])) _ ⟨0, rfl, Nat.zero_le _, A.keep _ (by repeat' constructor), M⟩ ?_
 clear M A
 rintro m_ a w9 ⟨i, rfl, hinv11, A, M⟩ K10 hK10
 have hi0 := hinv11
 refine wsk fun K12 hK12 => wrl ?_
 rcases tf (decide (((i : Nat) : Int) < ((l.length : Nat) : Int))) with hb13 | hb13
 ·
  have hb13' := of_decide_eq_true hb13
  refine sdc A ze hb13 λa A↦?_
  refine qa (hK12 _ _ (wsk fun K14 hK14 => wp_cond_true (A.ev rfl) ?_))
  refine wp_skip (hK14 _ _ (wsk fun K15 hK15 => wp_block (wsk fun K16 hK16 => wrl (sdm A λa A↦?_))))
  obtain ⟨bx17, ox18, sx19, hs20, hc21, hi22⟩ := hR.at_ (i := i) (by omega)
  refine sdo (v := .pointer (some ⟨bx17, ox18 + i, none⟩)) A (jh (k := i) Tryz.underlying30 (by kernel_rfl) rfl rfl (by first | rfl | omega) hs20 (by omega)) λa A↦?_
  refine sdo A (m_loadX M hc21 EnB_is1_9 rfl) λa A↦?_
  iterate 2 refine sda A λa A↦?_
  refine qa (hK16 _ _ (wrl ?_))
  iterate 4 refine sdm A λa A↦?_
  refine xb A rfl rfl rfl (vf rfl rfl hF.inv) (hF.run sx19 _ M.bel) ?_
  rintro _ w24 ⟨rfl, hb23⟩
  replace M := M.call hb23
  refine ⟨_, rfl, ?_⟩
  intro a A
  refine sdo (v := .pointer (some ⟨g5, i * 1, none⟩)) A (xq (k := i) Tryz.underlying31 (by kernel_rfl) rfl rfl (by first | rfl | omega) (by first | omega | decide)) λa A↦?_
  refine qej (us := []) (L' := (.row 4 1 (.slice (some ⟨g5, 0, none⟩) l.length l.length) l.length (boolC (ko p l (i + 1))) :: .obj g2 (.cells #[.slice none 0 0, .slice none 0 0] 111) :: [])) A M rfl rfl (um (cs := [.bool (p sx19)]) rfl rfl rfl (by kernel_rfl) M 0 rfl (by show _ + 1 ≤ _; omega) rfl) 0 rfl (by rw [boolC_set _ _ _ (by rw [askT_len p l (by omega)]; omega), askT_step hi22]; rfl) ?_
  intro w25 M
  refine qa (hK15 _ _ (wrl (sdo (v := .int .i64 (((i + 1 : Nat) : Int))) A (qh rfl rfl (ar_add ((in_i64 (by omega) (by omega)).trans (by omega)))) λa A↦?_)))
  refine sdm A λa A↦?_
  refine qa ?_
  refine hK10 _ _ _ (by omega) ⟨i + 1, rfl, by omega, A.keep _ (by repeat' constructor), M⟩
 ·
  have hb13' := of_decide_eq_false hb13
  refine sdc A ze hb13 λa A↦?_
  refine qa (hK12 _ _ (wsk fun K26 hK26 => wp_cond_false (A.ev rfl) ?_))
  refine wp_exit (hK7 _ _ (wsk fun K27 hK27 => wrl (sdm A λa A↦?_)))
  refine sct A (ef rfl rfl) (texts_any (hR.below M.bel) hl hs) ?_
  rintro _ w31 ⟨so28, ca29, rfl, hM30⟩
  replace M : Mg w w31 (.row 9 1 (.slice so28 l.length ca29) l.length (strC l) :: .row 4 1 (.slice (some ⟨g5, 0, none⟩) l.length l.length) l.length (boolC (ko p l i)) :: .obj g2 (.cells #[.slice none 0 0, .slice none 0 0] 111) :: []) := (M.both hM30 (qi (by simp) (qi (by simp) (qk qp))) (qi (by simp) (qk qp)))
  refine ⟨_, rfl, ?_⟩
  intro a A
  refine sdm A λa A↦?_
  refine sdo (v := .agg #[.slice so28 l.length ca29, .slice (some ⟨g5, 0, none⟩) l.length l.length]) A (zk rfl (fun w => by kernel_rfl)) λa A↦?_
  refine zf (us := [.slice so28 l.length ca29, .slice (some ⟨g5, 0, none⟩) l.length l.length]) (L' := (.row 9 1 (.slice so28 l.length ca29) l.length (strC l) :: .row 4 1 (.slice (some ⟨g5, 0, none⟩) l.length l.length) l.length (boolC (ko p l i)) :: .obj g2 (.cells #[.slice so28 l.length ca29, .slice (some ⟨g5, 0, none⟩) l.length l.length] 111) :: [])) A M rfl rfl (qy rfl rfl rfl (by kernel_rfl) M 2 rfl rfl rfl) 2 rfl rfl rfl ?_
  intro w32 M
  refine qa (hK27 _ _ (wp_ret (hret _ _ (en1 A rfl (jk M EnB_isS_111 rfl 2 rfl (cs := [.slice so28 l.length ca29, .slice (some ⟨g5, 0, none⟩) l.length l.length]) rfl rfl) ?_))))
  replace M : Mg w w32 (.row 9 1 (.slice so28 l.length ca29) l.length (strC l) :: .row 4 1 (.slice (some ⟨g5, 0, none⟩) l.length l.length) l.length (boolC (ko p l i)) :: []) := by
   have h9 := M.sub (cc (cc (cn (.refl _))))
   exact h9
  rw [askT_full (show l.length ≤ i by omega)] at M
  exact ⟨_, _, _, _, rfl, M⟩
theorem EnC_isS_111 : IsS Tryz.prog 111 2 := ⟨⟨_, Tryz.underlying111⟩, by kernel_rfl⟩
theorem new1_any {w : World} {s : ByteArray} : Calls Tryz.prog 80 #[.string s] w fun e w' => e = .returned (.bool true) ∧ Below w.heap.size w w' := by
 have M : Mg w w ([]) := Mg.start w
 refine qm (l := [(0, .string s)]) Tryz.func80 rfl Tryz.ntmps80 rfl rfl ?_
 intro Q hret hnorm hP a A
 refine wsk fun K1 hK1 => wrl (sda A λa A↦?_)
 refine qa (hK1 _ _ (wsk fun K2 hK2 => wrl (sda A λa A↦?_)))
 refine qa (hK2 _ _ (wp_ret (hret _ _ (en1 A rfl (qe rfl) ?_))))
 exact ⟨rfl, M.bel⟩
theorem asks_new {w : World} : AskS Tryz.prog 80 [] w (fun _ => true) := ⟨fun us w => by kernel_rfl, fun s w1 hb => new1_any⟩
theorem new_twice {w : World} {so : Option Addr} {ca : Nat} {l : List ByteArray} (hR : Rs w so l) (hl : l.length ≤ 8796093021952) (ht : twS l = true) : Calls Tryz.prog 67 #[.slice so l.length ca] w fun e w' => e = .returned (.tuple #[.agg #[.slice none 0 0, .slice none 0 0], .int .i64 8]) ∧ Below w.heap.size w w' := by
 have M : Mg w w ([]) := Mg.start w
 refine qm (l := [(0, .slice so l.length ca)]) Tryz.func67 rfl Tryz.ntmps67 rfl rfl ?_
 intro Q hret hnorm hP a A
 refine wsk fun K1 hK1 => wrl (zp (vs := [.slice none 0 0, .slice none 0 0]) (t := 111) A M rfl rfl rfl pg (zg (z := .agg #[.slice none 0 0, .slice none 0 0]) (by kernel_rfl) rfl) (by decide) ?_)
 intro g2 w3 M a A
 refine sda A λa A↦?_
 refine qa (hK1 _ _ (wsk fun K4 hK4 => wp_block (wsk fun K5 hK5 => wrl (sdm A λa A↦?_))))
 refine gcl A M (ef rfl rfl) ((ht ▸ yq (hR.below M.bel) (by omega))) fun w7 hb6 M a A => ?_
 refine sda A λa A↦?_
 refine qa (hK5 _ _ (wp_cond_true (A.ev rfl) ?_))
 refine wsk fun K8 hK8 => wrl (sdo (v := .agg #[.slice none 0 0, .slice none 0 0]) A (zk rfl (fun w => by kernel_rfl)) λa A↦?_)
 refine zf (us := [.slice none 0 0, .slice none 0 0]) (L' := (.obj g2 (.cells #[.slice none 0 0, .slice none 0 0] 111) :: [])) A M rfl rfl (qy rfl rfl rfl (by kernel_rfl) M 0 rfl rfl rfl) 0 rfl rfl rfl ?_
 intro w9 M
 refine sda A λa A↦?_
 refine qa (hK8 _ _ (wp_ret (hret _ _ (en2 A rfl (jk M EnC_isS_111 rfl 0 rfl (cs := [.slice none 0 0, .slice none 0 0]) rfl rfl) (qe rfl) ?_))))
 exact ⟨rfl, M.bel⟩
theorem new_large {w : World} {so : Option Addr} {ca : Nat} {l : List ByteArray} (hR : Rs w so l) (hl : l.length ≤ 8796093021952) (ht : twS l = false) (h64 : 64 < l.length) : Calls Tryz.prog 67 #[.slice so l.length ca] w fun e w' => e = .returned (.tuple #[.agg #[.slice none 0 0, .slice none 0 0], .int .i64 4]) ∧ Below w.heap.size w w' := by
 have M : Mg w w ([]) := Mg.start w
 refine qm (l := [(0, .slice so l.length ca)]) Tryz.func67 rfl Tryz.ntmps67 rfl rfl ?_
 intro Q hret hnorm hP a A
 refine wsk fun K1 hK1 => wrl (zp (vs := [.slice none 0 0, .slice none 0 0]) (t := 111) A M rfl rfl rfl pg (zg (z := .agg #[.slice none 0 0, .slice none 0 0]) (by kernel_rfl) rfl) (by decide) ?_)
 intro g2 w3 M a A
 refine sda A λa A↦?_
 refine qa (hK1 _ _ (wsk fun K4 hK4 => wp_block (wsk fun K5 hK5 => wrl (sdm A λa A↦?_))))
 refine gcl A M (ef rfl rfl) ((ht ▸ yq (hR.below M.bel) (by omega))) fun w7 hb6 M a A => ?_
 refine sda A λa A↦?_
 refine qa (hK5 _ _ (wp_cond_false (A.ev rfl) ?_))
 refine wsk fun K8 hK8 => wrl (sdm A λa A↦?_)
 refine sdo A (qr Tryz.underlying30 rfl) λa A↦?_
 refine sdo (v := .bool true) A (qh rfl rfl (fun w => (xf w).trans (by rw [show (decide (64 < ((l.length : Nat) : Int))) = true from (decide_eq_true (by omega))]))) λa A↦?_
 refine sda A λa A↦?_
 refine qa (hK8 _ _ (wp_cond_true (A.ev rfl) ?_))
 refine wsk fun K9 hK9 => wrl (sdo (v := .agg #[.slice none 0 0, .slice none 0 0]) A (zk rfl (fun w => by kernel_rfl)) λa A↦?_)
 refine zf (us := [.slice none 0 0, .slice none 0 0]) (L' := (.obj g2 (.cells #[.slice none 0 0, .slice none 0 0] 111) :: [])) A M rfl rfl (qy rfl rfl rfl (by kernel_rfl) M 0 rfl rfl rfl) 0 rfl rfl rfl ?_
 intro w10 M
 refine sda A λa A↦?_
 refine qa (hK9 _ _ (wp_ret (hret _ _ (en2 A rfl (jk M EnC_isS_111 rfl 0 rfl (cs := [.slice none 0 0, .slice none 0 0]) rfl rfl) (qe rfl) ?_))))
 exact ⟨rfl, M.bel⟩
theorem new_ok {w : World} {so : Option Addr} {ca : Nat} {l : List ByteArray} (hR : Rs w so l) (hs : ∀ s ∈ l, s.size ≤ 281474976710656) (ht : twS l = false) (h64 : l.length ≤ 64) : Calls Tryz.prog 67 #[.slice so l.length ca] w fun e w' => ∃ so' ca' si' ci', e = .returned (.tuple #[.agg #[.slice so' l.length ca', .slice si' l.length ci'], .int .i64 0]) ∧ Mg w w' [.row 9 1 (.slice so' l.length ca') l.length (strC l), .row 4 1 (.slice si' l.length ci') l.length (boolC (l.map fun _ => true))] := by
 have M : Mg w w ([]) := Mg.start w
 refine qm (l := [(0, .slice so l.length ca)]) Tryz.func67 rfl Tryz.ntmps67 rfl rfl ?_
 intro Q hret hnorm hP a A
 refine wsk fun K1 hK1 => wrl (zp (vs := [.slice none 0 0, .slice none 0 0]) (t := 111) A M rfl rfl rfl pg (zg (z := .agg #[.slice none 0 0, .slice none 0 0]) (by kernel_rfl) rfl) (by decide) ?_)
 intro g2 w3 M a A
 refine sda A λa A↦?_
 refine qa (hK1 _ _ (wsk fun K4 hK4 => wp_block (wsk fun K5 hK5 => wrl (sdm A λa A↦?_))))
 refine gcl A M (ef rfl rfl) ((ht ▸ yq (hR.below M.bel) (by omega))) fun w7 hb6 M a A => ?_
 refine sda A λa A↦?_
 refine qa (hK5 _ _ (wp_cond_false (A.ev rfl) ?_))
 refine wsk fun K8 hK8 => wrl (sdm A λa A↦?_)
 refine sdo A (qr Tryz.underlying30 rfl) λa A↦?_
 refine sdo (v := .bool false) A (qh rfl rfl (fun w => (xf w).trans (by rw [show (decide (64 < ((l.length : Nat) : Int))) = false from (decide_eq_false (by omega))]))) λa A↦?_
 refine sda A λa A↦?_
 refine qa (hK8 _ _ (wp_cond_false (A.ev rfl) ?_))
 refine wp_skip (hK4 _ _ (wsk fun K9 hK9 => wrl (sdm A λa A↦?_)))
 refine sct A (ef rfl rfl) (where_any (hR.below M.bel) (by omega) hs (cs := []) asks_new) ?_
 rintro _ w15 ⟨so10, ca11, si12, ci13, rfl, hM14⟩
 replace M : Mg w w15 (.row 9 1 (.slice so10 l.length ca11) l.length (strC l) :: .row 4 1 (.slice si12 l.length ci13) l.length (boolC (l.map (fun _ => true))) :: .obj g2 (.cells #[.slice none 0 0, .slice none 0 0] 111) :: []) := (M.both hM14 (qi (by simp) (qk qp)) (qi (by simp) (qi (by simp) (qk qp))))
 refine ⟨_, rfl, ?_⟩
 intro a A
 refine zf (us := [.slice so10 l.length ca11, .slice si12 l.length ci13]) (L' := (.row 9 1 (.slice so10 l.length ca11) l.length (strC l) :: .row 4 1 (.slice si12 l.length ci13) l.length (boolC (l.map (fun _ => true))) :: .obj g2 (.cells #[.slice so10 l.length ca11, .slice si12 l.length ci13] 111) :: [])) A M rfl rfl (qy rfl rfl rfl (by kernel_rfl) M 2 rfl rfl rfl) 2 rfl rfl rfl ?_
 intro w16 M
 refine sda A λa A↦?_
 refine qa (hK9 _ _ (wp_ret (hret _ _ (en2 A rfl (jk M EnC_isS_111 rfl 2 rfl (cs := [.slice so10 l.length ca11, .slice si12 l.length ci13]) rfl rfl) (qe rfl) ?_))))
 replace M : Mg w w16 (.row 9 1 (.slice so10 l.length ca11) l.length (strC l) :: .row 4 1 (.slice si12 l.length ci13) l.length (boolC (l.map (fun _ => true))) :: []) := by
  have h9 := M.sub (cc (cc (cn (.refl _))))
  exact h9
 exact ⟨_, _, _, _, rfl, M⟩
end Go.Proofs.YtokgmpjblnpjmaaGreatDoor.G.E
namespace Go.Proofs.YtokgmpjblnpjmaaGreatDoor.G
open Go.RowKit
set_option linter.unusedVariables false
set_option linter.unusedSimpArgs false
set_option maxRecDepth 100000
theorem RcB_is1_26 : Is1 Tryz.prog 26 := ⟨⟨_, Tryz.underlying26, rfl⟩, by kernel_rfl⟩
theorem RcB_is1_3 : Is1 Tryz.prog 3 := ⟨⟨_, Tryz.underlying3, rfl⟩, by kernel_rfl⟩
theorem RcB_is1_30 : Is1 Tryz.prog 30 := ⟨⟨_, Tryz.underlying30, rfl⟩, by kernel_rfl⟩
theorem RcB_is1_31 : Is1 Tryz.prog 31 := ⟨⟨_, Tryz.underlying31, rfl⟩, by kernel_rfl⟩
theorem RcB_is1_4 : Is1 Tryz.prog 4 := ⟨⟨_, Tryz.underlying4, rfl⟩, by kernel_rfl⟩
theorem RcB_is1_9 : Is1 Tryz.prog 9 := ⟨⟨_, Tryz.underlying9, rfl⟩, by kernel_rfl⟩
theorem RcB_fld_33_0 : FieldAt Tryz.prog 33 0 0 := ⟨_, _, Tryz.underlying33, rfl, rfl, by kernel_rfl⟩
theorem RcB_fld_33_1 : FieldAt Tryz.prog 33 1 1 := ⟨_, _, Tryz.underlying33, rfl, rfl, by kernel_rfl⟩
theorem RcB_fld_33_2 : FieldAt Tryz.prog 33 2 2 := ⟨_, _, Tryz.underlying33, rfl, rfl, by kernel_rfl⟩
theorem RcB_fld_33_3 : FieldAt Tryz.prog 33 3 3 := ⟨_, _, Tryz.underlying33, rfl, rfl, by kernel_rfl⟩
theorem RcB_fld_33_4 : FieldAt Tryz.prog 33 4 4 := ⟨_, _, Tryz.underlying33, rfl, rfl, by kernel_rfl⟩
theorem RcB_fld_33_5 : FieldAt Tryz.prog 33 5 5 := ⟨_, _, Tryz.underlying33, rfl, rfl, by kernel_rfl⟩
theorem RcB_fld_33_6 : FieldAt Tryz.prog 33 6 6 := ⟨_, _, Tryz.underlying33, rfl, rfl, by kernel_rfl⟩
theorem RcB_fld_73_0 : FieldAt Tryz.prog 73 0 0 := ⟨_, _, Tryz.underlying73, rfl, rfl, by kernel_rfl⟩
theorem RcB_isS_33 : IsS Tryz.prog 33 7 := ⟨⟨_, Tryz.underlying33⟩, by kernel_rfl⟩
theorem kw {w : World} {so : Option Addr} {ca : Nat} {l : List ByteArray} (hR : E.Rs w so l) (hl : l.length ≤ 1000000) (hs : ∀ s ∈ l, s.size ≤ 281474976710656) : Calls Tryz.prog 48 #[.slice so l.length ca] w fun e w' => e = .returned (.bool (E.twS l)) ∧ Below w.heap.size w w' := by
 have M : Mg w w ([]) := Mg.start w
 refine qm (l := [(0, .slice so l.length ca)]) Tryz.func48 rfl Tryz.ntmps48 rfl rfl ?_
 intro Q hret hnorm hP a A
 refine wsk fun K1 hK1 => wrl (sda A λa A↦?_)
 refine qa (hK1 _ _ (wsk fun K2 hK2 => wrl (sdm A λa A↦?_)))
 rcases tf (E.twS l) with hb4 | hb4
 ·
  refine gcl A M (ef rfl rfl) (E.new_twice (hR.below M.bel) (by omega) hb4) fun w6 hb5 M a A => ?_
  refine sdm A λa A↦?_
  iterate 2 refine sdo A (za (vs := [.agg #[.slice none 0 0, .slice none 0 0], .int .i64 8]) rfl rfl) λa A↦?_
  refine zp (vs := [.slice none 0 0, .slice none 0 0]) (t := 111) A M rfl rfl rfl pg (zg (z := .agg #[.slice none 0 0, .slice none 0 0]) (by kernel_rfl) rfl) (by decide) ?_
  intro g7 w8 M a A
  refine zf (us := [.slice none 0 0, .slice none 0 0]) (L' := (.obj g7 (.cells #[.slice none 0 0, .slice none 0 0] 111) :: [])) A M rfl rfl (qy rfl rfl rfl (by kernel_rfl) M 0 rfl rfl rfl) 0 rfl rfl rfl ?_
  intro w9 M
  refine sda A λa A↦?_
  refine qa (hK2 _ _ (wsk fun K10 hK10 => wrl (sdm A λa A↦?_)))
  refine sdo (v := .bool true) A (qh rfl rfl (fun w => by kernel_rfl)) λa A↦?_
  refine sda A λa A↦?_
  refine qa (hK10 _ _ (wp_ret (hret _ _ (en1 A rfl (qe rfl) ?_))))
  exact ⟨by rw [hb4], M.bel⟩
 ·
  rcases tf (decide (64 < l.length)) with hb12 | hb12
  ·
   have hb12' := of_decide_eq_true hb12
   refine gcl A M (ef rfl rfl) (E.new_large (hR.below M.bel) (by omega) hb4 (of_decide_eq_true hb12)) fun w14 hb13 M a A => ?_
   refine sdm A λa A↦?_
   iterate 2 refine sdo A (za (vs := [.agg #[.slice none 0 0, .slice none 0 0], .int .i64 4]) rfl rfl) λa A↦?_
   refine zp (vs := [.slice none 0 0, .slice none 0 0]) (t := 111) A M rfl rfl rfl pg (zg (z := .agg #[.slice none 0 0, .slice none 0 0]) (by kernel_rfl) rfl) (by decide) ?_
   intro g15 w16 M a A
   refine zf (us := [.slice none 0 0, .slice none 0 0]) (L' := (.obj g15 (.cells #[.slice none 0 0, .slice none 0 0] 111) :: [])) A M rfl rfl (qy rfl rfl rfl (by kernel_rfl) M 0 rfl rfl rfl) 0 rfl rfl rfl ?_
   intro w17 M
   refine sda A λa A↦?_
   refine qa (hK2 _ _ (wsk fun K18 hK18 => wrl (sdm A λa A↦?_)))
   refine sdo (v := .bool false) A (qh rfl rfl (fun w => by kernel_rfl)) λa A↦?_
   refine sda A λa A↦?_
   refine qa (hK18 _ _ (wp_ret (hret _ _ (en1 A rfl (qe rfl) ?_))))
   exact ⟨by rw [hb4], M.bel⟩
  ·
   have hb12' := of_decide_eq_false hb12
   refine sct A (ef rfl rfl) (E.new_ok (hR.below M.bel) hs hb4 (by have := of_decide_eq_false hb12; omega)) ?_
   rintro _ w20 ⟨s1, c1, s2, c2, rfl, hb19⟩
   replace M := M.call hb19.bel
   refine ⟨_, rfl, ?_⟩
   intro a A
   refine sdm A λa A↦?_
   iterate 2 refine sdo A (za (vs := [.agg #[.slice s1 l.length c1, .slice s2 l.length c2], .int .i64 0]) rfl rfl) λa A↦?_
   refine zp (vs := [.slice none 0 0, .slice none 0 0]) (t := 111) A M rfl rfl rfl pg (zg (z := .agg #[.slice none 0 0, .slice none 0 0]) (by kernel_rfl) rfl) (by decide) ?_
   intro g21 w22 M a A
   refine zf (us := [.slice s1 l.length c1, .slice s2 l.length c2]) (L' := (.obj g21 (.cells #[.slice s1 l.length c1, .slice s2 l.length c2] 111) :: [])) A M rfl rfl (qy rfl rfl rfl (by kernel_rfl) M 0 rfl rfl rfl) 0 rfl rfl rfl ?_
   intro w23 M
   refine sda A λa A↦?_
   refine qa (hK2 _ _ (wsk fun K24 hK24 => wrl (sdm A λa A↦?_)))
   refine sdo (v := .bool false) A (qh rfl rfl (fun w => by kernel_rfl)) λa A↦?_
   refine sda A λa A↦?_
   refine qa (hK24 _ _ (wp_ret (hret _ _ (en1 A rfl (qe rfl) ?_))))
   exact ⟨by rw [hb4], M.bel⟩
theorem qjd {w : World} {b tc rc : Nat} {tz ro : Option Addr} {ts : List Ty} {rs : List Rk} (V : SR w b tz tc ts ro rc rs) (hW : WS (ts.map Ty.k) (rs.map Rk.k)) {u : Ty} (hU : TyR w u) (hul : u.fs.length ≤ 1000000) (huz : ∀ s ∈ u.fs, s.size ≤ 281474976710656) : Calls Tryz.prog 25 #[.pointer (some ⟨b, 0, none⟩), .agg #[.string u.nm, .int .i64 u.par, .slice u.fo u.fs.length u.fc, .slice u.mo u.ms.length u.mc, .bool u.sl, .bool u.op, .string u.ui]] w fun e w' => e = .returned (.bool (gdB ts.length u.k)) ∧ Below w.heap.size w w' := by
 have M : Mg w w ([]) := Mg.start w
 refine qm (l := [(0, .pointer (some ⟨b, 0, none⟩)), (1, .agg #[.string u.nm, .int .i64 u.par, .slice u.fo u.fs.length u.fc, .slice u.mo u.ms.length u.mc, .bool u.sl, .bool u.op, .string u.ui])]) Tryz.func25 rfl Tryz.ntmps25 rfl rfl ?_
 intro Q hret hnorm hP a A
 refine wsk fun K1 hK1 => wrl (zp (vs := [.string u.nm, .int .i64 u.par, .slice u.fo u.fs.length u.fc, .slice u.mo u.ms.length u.mc, .bool u.sl, .bool u.op, .string u.ui]) (t := 33) A M rfl rfl rfl pg (zh rfl rfl) (by decide) ?_)
 intro g2 w3 M a A
 refine sda A λa A↦?_
 refine qa (hK1 _ _ (wsk fun K4 hK4 => wrl (sdo (v := .pointer (some ⟨g2, 3, none⟩)) A (qb RcB_fld_33_3 rfl rfl) λa A↦?_)))
 refine sdo A (qj M RcB_is1_31 rfl 0 rfl rfl) λa A↦?_
 refine sdo A (qr Tryz.underlying31 rfl) λa A↦?_
 refine sdo (v := .pointer (some ⟨g2, 2, none⟩)) A (qb RcB_fld_33_2 rfl rfl) λa A↦?_
 refine sdo A (qj M RcB_is1_30 rfl 0 rfl rfl) λa A↦?_
 refine sdo A (qr Tryz.underlying30 rfl) λa A↦?_
 rcases tf ((((u.ms.length : Nat) : Int) == ((u.fs.length : Nat) : Int))) with hb5 | hb5
 ·
  have hb5' := eq_of_beq hb5
  refine sdc A qw hb5 λa A↦?_
  refine sdm A λa A↦?_
  refine sdo (v := .pointer (some ⟨g2, 2, none⟩)) A (qb RcB_fld_33_2 rfl rfl) λa A↦?_
  refine sdo A (qj M RcB_is1_30 rfl 0 rfl rfl) λa A↦?_
  rcases tf (E.twS u.fs) with hb6 | hb6
  ·
   refine gcl A M (ef rfl rfl) ((hb6 ▸ kw (hU.f.below M.bel) hul huz)) fun w8 hb7 M a A => ?_
   refine sdo (v := .bool false) A (zv rfl ji) λa A↦?_
   refine sdk (v := .bool false) A λa A↦?_
   refine sdm A λa A↦?_
   iterate 4 refine qn A rfl rfl rfl λa A↦?_
   iterate 5 refine ye A rfl rfl rfl λa A↦?_
   refine qn A rfl rfl rfl λa A↦?_
   refine sdk (v := .bool false) A λa A↦?_
   refine sda A λa A↦?_
   refine qa (hK4 _ _ (wp_ret (hret _ _ (en1 A rfl (qe rfl) ?_))))
   exact ⟨by rw [gd_no (n := ts.length) (k := u.k) (.inr (.inl hb6))], M.bel⟩
  ·
   refine gcl A M (ef rfl rfl) ((hb6 ▸ kw (hU.f.below M.bel) hul huz)) fun w10 hb9 M a A => ?_
   refine sdo (v := .bool true) A (zv rfl ji) λa A↦?_
   refine sdk (v := .bool true) A λa A↦?_
   refine sdm A λa A↦?_
   refine sdo (v := .pointer (some ⟨g2, 1, none⟩)) A (qb RcB_fld_33_1 rfl rfl) λa A↦?_
   refine sdo A (qj M RcB_is1_3 rfl 0 rfl rfl) λa A↦?_
   rcases tf ((u.par == -1)) with hb11 | hb11
   ·
    have hb11' := eq_of_beq hb11
    refine sdc A qw hb11 λa A↦?_
    refine sdm A λa A↦?_
    iterate 5 refine qn A rfl rfl rfl λa A↦?_
    iterate 2 refine sdk (v := .bool true) A λa A↦?_
    refine sda A λa A↦?_
    refine qa (hK4 _ _ (wp_ret (hret _ _ (en1 A rfl (qe rfl) ?_))))
    exact ⟨by rw [gd_of (n := ts.length) (k := u.k) (show u.ms.length = u.fs.length by omega) hb6 (show -1 ≤ u.par by omega) (show u.par < _ by omega)], M.bel⟩
   ·
    have hb11' := ne_of_beq_false hb11
    refine sdc A qw hb11 λa A↦?_
    iterate 2 refine sdm A λa A↦?_
    refine sdo (v := .pointer (some ⟨g2, 1, none⟩)) A (qb RcB_fld_33_1 rfl rfl) λa A↦?_
    refine sdo A (qj M RcB_is1_3 rfl 0 rfl rfl) λa A↦?_
    rcases tf (okT ts.length u.par) with hb12 | hb12
    ·
     have hx14 := kf hb12
     refine gcl A M (ef rfl rfl) (vb (V.below M.bel) hW hb12) fun w15 hb13 M a A => ?_
     refine sdo (v := .bool true) A (qh rfl rfl (fun w => by kernel_rfl)) λa A↦?_
     iterate 2 refine sdk (v := .bool true) A λa A↦?_
     refine sda A λa A↦?_
     refine qa (hK4 _ _ (wp_ret (hret _ _ (en1 A rfl (qe rfl) ?_))))
     exact ⟨by rw [gd_of (n := ts.length) (k := u.k) (show u.ms.length = u.fs.length by omega) hb6 (show -1 ≤ u.par by omega) (show u.par < _ by omega)], M.bel⟩
    ·
     have hx17 := qld hb12
     refine gcl A M (ef rfl rfl) (vw (V.below M.bel) hW hb12) fun w18 hb16 M a A => ?_
     refine sdo (v := .bool false) A (qh rfl rfl (fun w => by kernel_rfl)) λa A↦?_
     iterate 2 refine sdk (v := .bool false) A λa A↦?_
     refine sda A λa A↦?_
     refine qa (hK4 _ _ (wp_ret (hret _ _ (en1 A rfl (qe rfl) ?_))))
     exact ⟨by rw [gd_no (n := ts.length) (k := u.k) (.inr (.inr (show u.par < -1 ∨ ((ts.length : Nat) : Int) ≤ u.par by omega)))], M.bel⟩
 ·
  have hb5' := ne_of_beq_false hb5
  refine sdc A qw hb5 λa A↦?_
  refine sdm A λa A↦?_
  iterate 4 refine qn A rfl rfl rfl λa A↦?_
  refine sdk (v := .bool false) A λa A↦?_
  refine sdm A λa A↦?_
  iterate 4 refine qn A rfl rfl rfl λa A↦?_
  iterate 5 refine ye A rfl rfl rfl λa A↦?_
  refine qn A rfl rfl rfl λa A↦?_
  refine sdk (v := .bool false) A λa A↦?_
  refine sda A λa A↦?_
  refine qa (hK4 _ _ (wp_ret (hret _ _ (en1 A rfl (qe rfl) ?_))))
  exact ⟨by rw [gd_no (n := ts.length) (k := u.k) (.inl (show u.ms.length ≠ u.fs.length by omega))], M.bel⟩
theorem yt {w : World} {b tc rc : Nat} {tz ro : Option Addr} {ts : List Ty} {rs : List Rk} (V : SR w b tz tc ts ro rc rs) (hW : WS (ts.map Ty.k) (rs.map Rk.k)) {u : Ty} (hU : TyR w u) (hul : u.fs.length ≤ 1000000) (huz : ∀ s ∈ u.fs, s.size ≤ 281474976710656) {v : Bool} (h : gdB ts.length u.k = v) : Calls Tryz.prog 25 #[.pointer (some ⟨b, 0, none⟩), .agg #[.string u.nm, .int .i64 u.par, .slice u.fo u.fs.length u.fc, .slice u.mo u.ms.length u.mc, .bool u.sl, .bool u.op, .string u.ui]] w fun e w' => e = .returned (.bool v) ∧ Below w.heap.size w w' := h ▸ qjd V hW hU hul huz
theorem qaf {w : World} {so so2 : Option Addr} {ca ca2 : Nat} {l l2 : List Bool} (hR : E.Rl w so l) (hR2 : E.Rl w so2 l2) (hl : l.length ≤ 1000000) (hl2 : l2.length ≤ 1000000000) : Calls Tryz.prog 69 #[.slice so l.length ca, .slice so2 l2.length ca2] w fun e w' => e = .returned (.bool (decide (l = l2))) ∧ Below w.heap.size w w' := by
 have M : Mg w w ([]) := Mg.start w
 refine qm (l := [(0, .slice so l.length ca), (1, .slice so2 l2.length ca2)]) Tryz.func69 rfl Tryz.ntmps69 rfl rfl ?_
 intro Q hret hnorm hP a A
 refine wsk fun K1 hK1 => wrl (sda A λa A↦?_)
 refine qa (hK1 _ _ (wsk fun K2 hK2 => wsk fun K3 hK3 => wrl (sdm A λa A↦?_)))
 refine sdo A (qr Tryz.underlying31 rfl) λa A↦?_
 refine sdm A λa A↦?_
 refine sdo A (qr Tryz.underlying31 rfl) λa A↦?_
 rcases tf ((((l.length : Nat) : Int) != ((l2.length : Nat) : Int))) with hb4 | hb4
 ·
  have hb4' := bne_iff_ne.1 hb4
  refine sdc A jj hb4 λa A↦?_
  refine qa (hK3 _ _ (wp_cond_true (A.ev rfl) ?_))
  refine wsk fun K5 hK5 => wrl (sda A λa A↦?_)
  refine qa (hK5 _ _ (wp_ret (hret _ _ (en1 A rfl (qe rfl) ?_))))
  refine ⟨?_, M.bel⟩
  rw [decide_eq_false (fun e9 => by rw [e9] at hb4'; exact hb4' rfl)]
 ·
  have hb4' := bne_eq_false_iff_eq.1 hb4
  refine sdc A jj hb4 λa A↦?_
  refine qa (hK3 _ _ (wp_cond_false (A.ev rfl) ?_))
  refine wp_skip (hK2 _ _ (wsk fun K6 hK6 => wsk fun K7 hK7 => wrl (sdm A λa A↦?_)))
  refine sdo A (qr Tryz.underlying31 rfl) λa A↦?_
  refine sdm A λa A↦?_
  refine qa (hK7 _ _ (wp_block (jd (fun m_ a w1 => ∃ (i : Nat), m_ = 1 + (l.length - i) ∧ (i ≤ l.length ∧ ∀ j : Nat, j < i → l[j]? = l2[j]?) ∧ Sl a 26 [(0, .slice so l.length ca), (1, .slice so2 l2.length ca2), (6, .slice so l.length ca), (7, .int .i64 (((l.length : Nat) : Int))), (8, .slice so2 l2.length ca2), (9, .int .i64 (((l2.length : Nat) : Int))), (10, .bool false), (11, .slice so l.length ca), (12, .int .i64 (((l.length : Nat) : Int))), (13, .int .i64 (((i : Nat) : Int)))] ∧ Mg w w1 ([])) _ ⟨0, rfl, ⟨Nat.zero_le _, fun j h => absurd h (Nat.not_lt_zero _)⟩, A.keep _ (by repeat' constructor), M⟩ ?_)))
  clear M A
  rintro m_ a w8 ⟨i, rfl, hinv10, A, M⟩ K9 hK9
  obtain ⟨hi0, hin9⟩ := hinv10
  refine wsk fun K11 hK11 => wrl ?_
  rcases tf (decide (((i : Nat) : Int) < ((l.length : Nat) : Int))) with hb12 | hb12
  ·
   have hb12' := of_decide_eq_true hb12
   refine sdc A ze hb12 λa A↦?_
   refine qa (hK11 _ _ (wsk fun K13 hK13 => wp_cond_true (A.ev rfl) ?_))
   refine wp_skip (hK13 _ _ (wsk fun K14 hK14 => wp_block (wsk fun K15 hK15 => wrl (sdm A λa A↦?_))))
   refine sda A λa A↦?_
   refine qa (hK15 _ _ (wsk fun K16 hK16 => jm (S := fun w1 => Mg w w1 ([])) (by kernel_rfl) ?_))
   replace M := M.drew
   refine qf A 0 rfl rfl rfl rfl hP (M.sub (List.nil_sublist _)) (fun w1 M => qt rfl) λa A↦?_
   refine qf A 1 rfl rfl rfl rfl hP (M.sub (List.nil_sublist _)) (fun w1 M => qt rfl) λa A↦?_
   obtain ⟨bx17, ox18, sx19, hs20, hc21, hi22⟩ := hR.at_ (i := i) (by omega)
   refine qf (v := .pointer (some ⟨bx17, ox18 + i, none⟩)) A 2 rfl rfl rfl rfl hP (M.sub (List.nil_sublist _)) (fun w1 M => jh (k := i) Tryz.underlying31 (by kernel_rfl) rfl rfl (by first | rfl | omega) hs20 (by omega)) λa A↦?_
   refine qf A 3 rfl rfl rfl rfl hP (M.sub (List.nil_sublist _)) (fun w1 M => E.m_loadX M hc21 RcB_is1_4 rfl) λa A↦?_
   refine qf A 4 rfl rfl rfl rfl hP (M.sub (List.nil_sublist _)) (fun w1 M => qt rfl) λa A↦?_
   refine qf A 5 rfl rfl rfl rfl hP (M.sub (List.nil_sublist _)) (fun w1 M => qt rfl) λa A↦?_
   obtain ⟨bx23, ox24, sx25, hs26, hc27, hi28⟩ := hR2.at_ (i := i) (by omega)
   refine qf (v := .pointer (some ⟨bx23, ox24 + i, none⟩)) A 6 rfl rfl rfl rfl hP (M.sub (List.nil_sublist _)) (fun w1 M => jh (k := i) Tryz.underlying31 (by kernel_rfl) rfl rfl (by first | rfl | omega) hs26 (by omega)) λa A↦?_
   refine qf A 7 rfl rfl rfl rfl hP (M.sub (List.nil_sublist _)) (fun w1 M => E.m_loadX M hc27 RcB_is1_4 rfl) λa A↦?_
   rcases tf (!(sx19 == sx25)) with hb29 | hb29
   ·
    refine qf (v := .bool true) A 8 rfl rfl rfl rfl hP (M.sub (List.nil_sublist _)) (fun w1 M => qh rfl rfl (fun w => ((ud Tryz.underlying4) w).trans (by rw [hb29]))) λa A↦?_
    refine zi (by kernel_rfl) ?_
    refine hK16 _ _ (wp_cond_true (A.ev rfl) ?_)
    refine wsk fun K30 hK30 => wrl (sda A λa A↦?_)
    refine qa (hK30 _ _ (wp_ret (hret _ _ (en1 A rfl (qe rfl) ?_))))
    refine ⟨?_, M.bel⟩
    rw [decide_eq_false (fun e9 => by rw [e9, hi28] at hi22; have e8 := Option.some.inj hi22; rw [e8] at hb29; simp at hb29)]
   ·
    refine qf (v := .bool false) A 8 rfl rfl rfl rfl hP (M.sub (List.nil_sublist _)) (fun w1 M => qh rfl rfl (fun w => ((ud Tryz.underlying4) w).trans (by rw [hb29]))) λa A↦?_
    refine zi (by kernel_rfl) ?_
    refine hK16 _ _ (wp_cond_false (A.ev rfl) ?_)
    refine wp_skip (hK14 _ _ (wrl (sdo (v := .int .i64 (((i + 1 : Nat) : Int))) A (qh rfl rfl (fun w => (jf (je (by omega) (by omega)) w).trans (by rw [show (((i : Nat) : Int) + 1 : Int) = ((i + 1 : Nat) : Int) from by omega]))) λa A↦?_)))
    refine sdm A λa A↦?_
    refine qa ?_
    refine hK9 _ _ _ (by omega) ⟨i + 1, rfl, ⟨by omega, fun j hj => if h9 : j < i then hin9 j h9 else by have h8 : j = i := (by omega); subst h8; rw [hi22, hi28, show sx19 = sx25 from by simpa using hb29]⟩, A.keep _ (by repeat' constructor), M⟩
  ·
   have hb12' := of_decide_eq_false hb12
   refine sdc A ze hb12 λa A↦?_
   refine qa (hK11 _ _ (wsk fun K31 hK31 => wp_cond_false (A.ev rfl) ?_))
   refine wp_exit (hK6 _ _ (wsk fun K32 hK32 => wrl (sda A λa A↦?_)))
   refine qa (hK32 _ _ (wp_ret (hret _ _ (en1 A rfl (qe rfl) ?_))))
   refine ⟨?_, M.bel⟩
   rw [decide_eq_true (List.ext_getElem? fun j => if h9 : j < i then hin9 j h9 else by rw [List.getElem?_eq_none (by omega), List.getElem?_eq_none (by omega)])]
theorem same_any {w : World} {ya yb : Ty} (hA1 : TyR w ya) (hB1 : TyR w yb) (ha1 : ya.fs.length ≤ 1000000) (hb1 : yb.fs.length ≤ 1000000) (ha2 : ya.ms.length ≤ 1000000) (hb2 : yb.ms.length ≤ 1000000) : Calls Tryz.prog 51 #[.agg #[.string ya.nm, .int .i64 ya.par, .slice ya.fo ya.fs.length ya.fc, .slice ya.mo ya.ms.length ya.mc, .bool ya.sl, .bool ya.op, .string ya.ui], .agg #[.string yb.nm, .int .i64 yb.par, .slice yb.fo yb.fs.length yb.fc, .slice yb.mo yb.ms.length yb.mc, .bool yb.sl, .bool yb.op, .string yb.ui]] w fun e w' => e = .returned (.bool (xg ya.k yb.k)) ∧ Below w.heap.size w w' := by
 have M : Mg w w ([]) := Mg.start w
 refine qm (l := [(0, .agg #[.string ya.nm, .int .i64 ya.par, .slice ya.fo ya.fs.length ya.fc, .slice ya.mo ya.ms.length ya.mc, .bool ya.sl, .bool ya.op, .string ya.ui]), (1, .agg #[.string yb.nm, .int .i64 yb.par, .slice yb.fo yb.fs.length yb.fc, .slice yb.mo yb.ms.length yb.mc, .bool yb.sl, .bool yb.op, .string yb.ui])]) Tryz.func51 rfl Tryz.ntmps51 rfl rfl ?_
 intro Q hret hnorm hP a A
 refine wsk fun K1 hK1 => wrl (zp (vs := [.string ya.nm, .int .i64 ya.par, .slice ya.fo ya.fs.length ya.fc, .slice ya.mo ya.ms.length ya.mc, .bool ya.sl, .bool ya.op, .string ya.ui]) (t := 33) A M rfl rfl rfl pg (zh rfl rfl) (by decide) ?_)
 intro g2 w3 M a A
 refine zp (vs := [.string yb.nm, .int .i64 yb.par, .slice yb.fo yb.fs.length yb.fc, .slice yb.mo yb.ms.length yb.mc, .bool yb.sl, .bool yb.op, .string yb.ui]) (t := 33) A M rfl rfl rfl pg (zh rfl rfl) (by decide) ?_
 intro g4 w5 M a A
 refine sda A λa A↦?_
 refine qa (hK1 _ _ (wsk fun K6 hK6 => wrl (sdo (v := .pointer (some ⟨g2, 0, none⟩)) A (qb RcB_fld_33_0 rfl rfl) λa A↦?_)))
 refine sdo A (qj M RcB_is1_9 rfl 1 rfl rfl) λa A↦?_
 refine sdo (v := .pointer (some ⟨g4, 0, none⟩)) A (qb RcB_fld_33_0 rfl rfl) λa A↦?_
 refine sdo A (qj M RcB_is1_9 rfl 0 rfl rfl) λa A↦?_
 rcases tf (decide (ya.nm = yb.nm)) with hb7 | hb7
 ·
  have hb7' := of_decide_eq_true hb7
  refine sdo (v := .bool true) A (qh rfl rfl (fun w => (jt Tryz.underlying9 w).trans (by rw [hb7] <;> rfl))) λa A↦?_
  refine sdm A λa A↦?_
  refine sdo (v := .pointer (some ⟨g2, 1, none⟩)) A (qb RcB_fld_33_1 rfl rfl) λa A↦?_
  refine sdo A (qj M RcB_is1_3 rfl 1 rfl rfl) λa A↦?_
  refine sdo (v := .pointer (some ⟨g4, 1, none⟩)) A (qb RcB_fld_33_1 rfl rfl) λa A↦?_
  refine sdo A (qj M RcB_is1_3 rfl 0 rfl rfl) λa A↦?_
  rcases tf ((ya.par == yb.par)) with hb8 | hb8
  ·
   have hb8' := eq_of_beq hb8
   refine sdc A qw hb8 λa A↦?_
   refine sdk (v := .bool true) A λa A↦?_
   refine sdm A λa A↦?_
   refine sdo (v := .pointer (some ⟨g2, 2, none⟩)) A (qb RcB_fld_33_2 rfl rfl) λa A↦?_
   refine sdo A (qj M RcB_is1_30 rfl 1 rfl rfl) λa A↦?_
   refine sdo (v := .pointer (some ⟨g4, 2, none⟩)) A (qb RcB_fld_33_2 rfl rfl) λa A↦?_
   refine sdo A (qj M RcB_is1_30 rfl 0 rfl rfl) λa A↦?_
   rcases tf (decide (ya.fs = yb.fs)) with hb9 | hb9
   ·
    have hb9' := of_decide_eq_true hb9
    refine gcl A M (ef rfl rfl) ((hb9 ▸ E.equalS_any (hA1.f.below M.bel) (hB1.f.below M.bel) (by omega) (by omega))) fun w11 hb10 M a A => ?_
    refine sdk (v := .bool true) A λa A↦?_
    refine sdm A λa A↦?_
    refine sdo (v := .pointer (some ⟨g2, 3, none⟩)) A (qb RcB_fld_33_3 rfl rfl) λa A↦?_
    refine sdo A (qj M RcB_is1_31 rfl 1 rfl rfl) λa A↦?_
    refine sdo (v := .pointer (some ⟨g4, 3, none⟩)) A (qb RcB_fld_33_3 rfl rfl) λa A↦?_
    refine sdo A (qj M RcB_is1_31 rfl 0 rfl rfl) λa A↦?_
    rcases tf (decide (ya.ms = yb.ms)) with hb12 | hb12
    ·
     have hb12' := of_decide_eq_true hb12
     refine gcl A M (ef rfl rfl) ((hb12 ▸ qaf (hA1.m.below M.bel) (hB1.m.below M.bel) (by omega) (by omega))) fun w14 hb13 M a A => ?_
     refine sdk (v := .bool true) A λa A↦?_
     refine sdm A λa A↦?_
     refine sdo (v := .pointer (some ⟨g2, 4, none⟩)) A (qb RcB_fld_33_4 rfl rfl) λa A↦?_
     refine sdo A (qj M RcB_is1_4 rfl 1 rfl rfl) λa A↦?_
     refine sdo (v := .pointer (some ⟨g4, 4, none⟩)) A (qb RcB_fld_33_4 rfl rfl) λa A↦?_
     refine sdo A (qj M RcB_is1_4 rfl 0 rfl rfl) λa A↦?_
     rcases tf ((ya.sl == yb.sl)) with hb15 | hb15
     ·
      have hb15' := eq_of_beq hb15
      refine sdo (v := .bool true) A (qh rfl rfl (fun w => ((vp Tryz.underlying4) w).trans (by rw [hb15]))) λa A↦?_
      refine sdk (v := .bool true) A λa A↦?_
      refine sdm A λa A↦?_
      refine sdo (v := .pointer (some ⟨g2, 5, none⟩)) A (qb RcB_fld_33_5 rfl rfl) λa A↦?_
      refine sdo A (qj M RcB_is1_4 rfl 1 rfl rfl) λa A↦?_
      refine sdo (v := .pointer (some ⟨g4, 5, none⟩)) A (qb RcB_fld_33_5 rfl rfl) λa A↦?_
      refine sdo A (qj M RcB_is1_4 rfl 0 rfl rfl) λa A↦?_
      rcases tf ((ya.op == yb.op)) with hb16 | hb16
      ·
       have hb16' := eq_of_beq hb16
       refine sdo (v := .bool true) A (qh rfl rfl (fun w => ((vp Tryz.underlying4) w).trans (by rw [hb16]))) λa A↦?_
       refine sdk (v := .bool true) A λa A↦?_
       refine sdm A λa A↦?_
       refine sdo (v := .pointer (some ⟨g2, 6, none⟩)) A (qb RcB_fld_33_6 rfl rfl) λa A↦?_
       refine sdo A (qj M RcB_is1_9 rfl 1 rfl rfl) λa A↦?_
       refine sdo (v := .pointer (some ⟨g4, 6, none⟩)) A (qb RcB_fld_33_6 rfl rfl) λa A↦?_
       refine sdo A (qj M RcB_is1_9 rfl 0 rfl rfl) λa A↦?_
       rcases tf (decide (ya.ui = yb.ui)) with hb17 | hb17
       ·
        have hb17' := of_decide_eq_true hb17
        refine sdo (v := .bool true) A (qh rfl rfl (fun w => (jt Tryz.underlying9 w).trans (by rw [hb17] <;> rfl))) λa A↦?_
        refine sdk (v := .bool true) A λa A↦?_
        refine sda A λa A↦?_
        refine qa (hK6 _ _ (wp_ret (hret _ _ (en1 A rfl (qe rfl) ?_))))
        refine ⟨?_, M.bel⟩
        rw [show xg ya.k yb.k = true from by rw [xt, hb7, hb8, hb9, hb12, hb15, hb16, hb17]; rfl]
       ·
        have hb17' := of_decide_eq_false hb17
        refine sdo (v := .bool false) A (qh rfl rfl (fun w => (jt Tryz.underlying9 w).trans (by rw [hb17] <;> rfl))) λa A↦?_
        refine sdk (v := .bool false) A λa A↦?_
        refine sda A λa A↦?_
        refine qa (hK6 _ _ (wp_ret (hret _ _ (en1 A rfl (qe rfl) ?_))))
        refine ⟨?_, M.bel⟩
        rw [show xg ya.k yb.k = false from by rw [xt, hb7, hb8, hb9, hb12, hb15, hb16, hb17]; rfl]
      ·
       have hb16' := ne_of_beq_false hb16
       refine sdo (v := .bool false) A (qh rfl rfl (fun w => ((vp Tryz.underlying4) w).trans (by rw [hb16]))) λa A↦?_
       refine sdk (v := .bool false) A λa A↦?_
       refine sdm A λa A↦?_
       iterate 5 refine qn A rfl rfl rfl λa A↦?_
       refine sdk (v := .bool false) A λa A↦?_
       refine sda A λa A↦?_
       refine qa (hK6 _ _ (wp_ret (hret _ _ (en1 A rfl (qe rfl) ?_))))
       refine ⟨?_, M.bel⟩
       rw [show xg ya.k yb.k = false from by rw [xt, hb7, hb8, hb9, hb12, hb15, hb16]; rfl]
     ·
      have hb15' := ne_of_beq_false hb15
      refine sdo (v := .bool false) A (qh rfl rfl (fun w => ((vp Tryz.underlying4) w).trans (by rw [hb15]))) λa A↦?_
      refine sdk (v := .bool false) A λa A↦?_
      refine sdm A λa A↦?_
      iterate 5 refine qn A rfl rfl rfl λa A↦?_
      refine sdk (v := .bool false) A λa A↦?_
      refine sdm A λa A↦?_
      iterate 5 refine qn A rfl rfl rfl λa A↦?_
      refine sdk (v := .bool false) A λa A↦?_
      refine sda A λa A↦?_
      refine qa (hK6 _ _ (wp_ret (hret _ _ (en1 A rfl (qe rfl) ?_))))
      refine ⟨?_, M.bel⟩
      rw [show xg ya.k yb.k = false from by rw [xt, hb7, hb8, hb9, hb12, hb15]; rfl]
    ·
     have hb12' := of_decide_eq_false hb12
     refine gcl A M (ef rfl rfl) ((hb12 ▸ qaf (hA1.m.below M.bel) (hB1.m.below M.bel) (by omega) (by omega))) fun w19 hb18 M a A => ?_
     refine sdk (v := .bool false) A λa A↦?_
     refine sdm A λa A↦?_
     iterate 5 refine qn A rfl rfl rfl λa A↦?_
     refine sdk (v := .bool false) A λa A↦?_
     refine sdm A λa A↦?_
     iterate 5 refine qn A rfl rfl rfl λa A↦?_
     refine sdk (v := .bool false) A λa A↦?_
     refine sdm A λa A↦?_
     iterate 5 refine qn A rfl rfl rfl λa A↦?_
     refine sdk (v := .bool false) A λa A↦?_
     refine sda A λa A↦?_
     refine qa (hK6 _ _ (wp_ret (hret _ _ (en1 A rfl (qe rfl) ?_))))
     refine ⟨?_, M.bel⟩
     rw [show xg ya.k yb.k = false from by rw [xt, hb7, hb8, hb9, hb12]; rfl]
   ·
    have hb9' := of_decide_eq_false hb9
    refine gcl A M (ef rfl rfl) ((hb9 ▸ E.equalS_any (hA1.f.below M.bel) (hB1.f.below M.bel) (by omega) (by omega))) fun w21 hb20 M a A => ?_
    refine sdk (v := .bool false) A λa A↦?_
    refine sdm A λa A↦?_
    iterate 5 refine qn A rfl rfl rfl λa A↦?_
    refine sdk (v := .bool false) A λa A↦?_
    refine sdm A λa A↦?_
    iterate 5 refine qn A rfl rfl rfl λa A↦?_
    refine sdk (v := .bool false) A λa A↦?_
    refine sdm A λa A↦?_
    iterate 5 refine qn A rfl rfl rfl λa A↦?_
    refine sdk (v := .bool false) A λa A↦?_
    refine sdm A λa A↦?_
    iterate 5 refine qn A rfl rfl rfl λa A↦?_
    refine sdk (v := .bool false) A λa A↦?_
    refine sda A λa A↦?_
    refine qa (hK6 _ _ (wp_ret (hret _ _ (en1 A rfl (qe rfl) ?_))))
    refine ⟨?_, M.bel⟩
    rw [show xg ya.k yb.k = false from by rw [xt, hb7, hb8, hb9]; rfl]
  ·
   have hb8' := ne_of_beq_false hb8
   refine sdc A qw hb8 λa A↦?_
   refine sdk (v := .bool false) A λa A↦?_
   refine sdm A λa A↦?_
   iterate 5 refine qn A rfl rfl rfl λa A↦?_
   refine sdk (v := .bool false) A λa A↦?_
   refine sdm A λa A↦?_
   iterate 5 refine qn A rfl rfl rfl λa A↦?_
   refine sdk (v := .bool false) A λa A↦?_
   refine sdm A λa A↦?_
   iterate 5 refine qn A rfl rfl rfl λa A↦?_
   refine sdk (v := .bool false) A λa A↦?_
   refine sdm A λa A↦?_
   iterate 5 refine qn A rfl rfl rfl λa A↦?_
   refine sdk (v := .bool false) A λa A↦?_
   refine sdm A λa A↦?_
   iterate 5 refine qn A rfl rfl rfl λa A↦?_
   refine sdk (v := .bool false) A λa A↦?_
   refine sda A λa A↦?_
   refine qa (hK6 _ _ (wp_ret (hret _ _ (en1 A rfl (qe rfl) ?_))))
   refine ⟨?_, M.bel⟩
   rw [show xg ya.k yb.k = false from by rw [xt, hb7, hb8]; rfl]
 ·
  have hb7' := of_decide_eq_false hb7
  refine sdo (v := .bool false) A (qh rfl rfl (fun w => (jt Tryz.underlying9 w).trans (by rw [hb7] <;> rfl))) λa A↦?_
  refine sdm A λa A↦?_
  iterate 5 refine qn A rfl rfl rfl λa A↦?_
  refine sdk (v := .bool false) A λa A↦?_
  refine sdm A λa A↦?_
  iterate 5 refine qn A rfl rfl rfl λa A↦?_
  refine sdk (v := .bool false) A λa A↦?_
  refine sdm A λa A↦?_
  iterate 5 refine qn A rfl rfl rfl λa A↦?_
  refine sdk (v := .bool false) A λa A↦?_
  refine sdm A λa A↦?_
  iterate 5 refine qn A rfl rfl rfl λa A↦?_
  refine sdk (v := .bool false) A λa A↦?_
  refine sdm A λa A↦?_
  iterate 5 refine qn A rfl rfl rfl λa A↦?_
  refine sdk (v := .bool false) A λa A↦?_
  refine sdm A λa A↦?_
  iterate 5 refine qn A rfl rfl rfl λa A↦?_
  refine sdk (v := .bool false) A λa A↦?_
  refine sda A λa A↦?_
  refine qa (hK6 _ _ (wp_ret (hret _ _ (en1 A rfl (qe rfl) ?_))))
  refine ⟨?_, M.bel⟩
  rw [show xg ya.k yb.k = false from by rw [xt, hb7]; rfl]
theorem qlh {w : World} {ya yb : Ty} (hA1 : TyR w ya) (hB1 : TyR w yb) (ha1 : ya.fs.length ≤ 1000000) (hb1 : yb.fs.length ≤ 1000000) (ha2 : ya.ms.length ≤ 1000000) (hb2 : yb.ms.length ≤ 1000000) {v : Bool} (h : xg ya.k yb.k = v) : Calls Tryz.prog 51 #[.agg #[.string ya.nm, .int .i64 ya.par, .slice ya.fo ya.fs.length ya.fc, .slice ya.mo ya.ms.length ya.mc, .bool ya.sl, .bool ya.op, .string ya.ui], .agg #[.string yb.nm, .int .i64 yb.par, .slice yb.fo yb.fs.length yb.fc, .slice yb.mo yb.ms.length yb.mc, .bool yb.sl, .bool yb.op, .string yb.ui]] w fun e w' => e = .returned (.bool v) ∧ Below w.heap.size w w' := h ▸ same_any hA1 hB1 ha1 hb1 ha2 hb2
theorem qje {w : World} {tz : Option Addr} {tc : Nat} {ts : List Ty} (hT : TR w tz ts) (hl : ts.length ≤ 1000000) {f : FuncId} {cs : List Value} {p : Ty → Bool} (hF : AskG (fun t => .agg t.c.toArray) Tryz.prog f cs w ts p) : Calls Tryz.prog 49 #[.slice tz ts.length tc, .func (.func f) #[] cs.toArray] w fun e w' => e = .returned (.int .i64 (ixG p ts)) ∧ Below w.heap.size w w' := by
 have M : Mg w w ([]) := Mg.start w
 refine qm (l := [(0, .slice tz ts.length tc), (1, .func (.func f) #[] cs.toArray)]) Tryz.func49 rfl Tryz.ntmps49 rfl rfl ?_
 intro Q hret hnorm hP a A
 refine wsk fun K1 hK1 => wrl (sda A λa A↦?_)
 refine qa (hK1 _ _ (wsk fun K2 hK2 => wsk fun K3 hK3 => wrl (sdm A λa A↦?_)))
 refine sdo A (qr Tryz.underlying26 rfl) λa A↦?_
 refine sdm A λa A↦?_
 refine qa (hK3 _ _ (wp_block (jd (fun m_ a w1 => ∃ (i : Nat), m_ = 1 + (ts.length - i) ∧ (i ≤ ts.length ∧ ∀ (j : Nat) u, j < i → ts[j]? = some u → p u = false) ∧ Sl a 19 [(0, .slice tz ts.length tc), (1, .func (.func f) #[] cs.toArray), (6, .slice tz ts.length tc), (7, .int .i64 (((ts.length : Nat) : Int))), (8, .int .i64 (((i : Nat) : Int)))] ∧ Mg w w1 ([])) _ ⟨0, rfl, ⟨Nat.zero_le _, fun j u h => absurd h (Nat.not_lt_zero _)⟩, A.keep _ ⟨rfl, rfl, rfl, rfl, rfl, trivial⟩, M⟩ ?_)))
 clear M A
 rintro m_ a w4 ⟨i, rfl, hinv6, A, M⟩ K5 hK5
 obtain ⟨hi0, hin9⟩ := hinv6
 refine wsk fun K7 hK7 => wrl ?_
 rcases tf (decide (((i : Nat) : Int) < ((ts.length : Nat) : Int))) with hb8 | hb8
 ·
  have hb8' := of_decide_eq_true hb8
  refine sdc A ze hb8 λa A↦?_
  refine qa (hK7 _ _ (wsk fun K9 hK9 => wp_cond_true (A.ev rfl) ?_))
  refine wp_skip (hK9 _ _ (wsk fun K10 hK10 => wp_block (wsk fun K11 hK11 => wrl (sdm A λa A↦?_))))
  refine sda A λa A↦?_
  refine qa (hK11 _ _ (wsk fun K12 hK12 => wrl ?_))
  iterate 3 refine sdm A λa A↦?_
  obtain ⟨ty13, bt14, ot15, it16, mt17, rt18, lt19, Ht20⟩ := hT.at_ (i := i) (by omega)
  refine sdo (v := .pointer (some ⟨bt14, ot15 + i * 7, none⟩)) A (zj (k := i) Tryz.underlying26 (by kernel_rfl) rfl rfl (by first | rfl | omega) lt19 (by omega)) λa A↦?_
  refine sdo (v := .agg #[.string ty13.nm, .int .i64 ty13.par, .slice ty13.fo ty13.fs.length ty13.fc, .slice ty13.mo ty13.ms.length ty13.mc, .bool ty13.sl, .bool ty13.op, .string ty13.ui]) A (vt M Ht20 RcB_isS_33 rfl rfl) λa A↦?_
  rcases tf (p ty13) with hb21 | hb21
  ·
   refine xb A rfl rfl rfl (vf rfl rfl hF.inv) ((hb21 ▸ hF.run ty13 _ mt17 M.bel)) ?_
   rintro _ w23 ⟨rfl, hb22⟩
   replace M := M.call hb22
   refine ⟨_, rfl, ?_⟩
   intro a A
   refine qa (hK12 _ _ (wp_cond_true (A.ev rfl) ?_))
   refine wsk fun K24 hK24 => wrl (sdm A λa A↦?_)
   refine sda A λa A↦?_
   refine qa (hK24 _ _ (wp_ret (hret _ _ (en1 A rfl (qe rfl) ?_))))
   exact ⟨by rw [qlc (p := p) hin9 it16 hb21], M.bel⟩
  ·
   refine xb A rfl rfl rfl (vf rfl rfl hF.inv) ((hb21 ▸ hF.run ty13 _ mt17 M.bel)) ?_
   rintro _ w26 ⟨rfl, hb25⟩
   replace M := M.call hb25
   refine ⟨_, rfl, ?_⟩
   intro a A
   refine qa (hK12 _ _ (wp_cond_false (A.ev rfl) ?_))
   refine wp_skip (hK10 _ _ (wrl (sdo (v := .int .i64 (((i + 1 : Nat) : Int))) A (qh rfl rfl (fun w => (jf (je (by omega) (by omega)) w).trans (by rw [show (((i : Nat) : Int) + 1 : Int) = ((i + 1 : Nat) : Int) from by omega]))) λa A↦?_)))
   refine sdm A λa A↦?_
   refine qa ?_
   refine hK5 _ _ _ (by omega) ⟨i + 1, rfl, ⟨by omega, fun j u hj hu => if h9 : j < i then hin9 j u h9 hu else by have h8 : j = i := (by omega); subst h8; rw [it16] at hu; rw [← Option.some.inj hu]; exact hb21⟩, A.keep _ ⟨rfl, rfl, rfl, rfl, rfl, trivial⟩, M⟩
 ·
  have hb8' := of_decide_eq_false hb8
  refine sdc A ze hb8 λa A↦?_
  refine qa (hK7 _ _ (wsk fun K27 hK27 => wp_cond_false (A.ev rfl) ?_))
  refine wp_exit (hK2 _ _ (wsk fun K28 hK28 => wrl (sda A λa A↦?_)))
  refine qa (hK28 _ _ (wp_ret (hret _ _ (en1 A rfl (qe rfl) ?_))))
  exact ⟨by rw [qfj (p := p) (fun j u hj => hin9 j u (by omega))], M.bel⟩
theorem qef {w : World} {u : Ty} {gb : Nat} {s : ByteArray} (hg : w.cell? ⟨gb, 0, none⟩ = some (.string s)) : Calls Tryz.prog 50 #[.agg #[.string u.nm, .int .i64 u.par, .slice u.fo u.fs.length u.fc, .slice u.mo u.ms.length u.mc, .bool u.sl, .bool u.op, .string u.ui], .pointer (some ⟨gb, 0, none⟩)] w fun e w' => e = .returned (.bool (decide (u.ui = s))) ∧ Below w.heap.size w w' := by
 have M : Mg w w ([]) := Mg.start w
 refine qm (l := [(0, .agg #[.string u.nm, .int .i64 u.par, .slice u.fo u.fs.length u.fc, .slice u.mo u.ms.length u.mc, .bool u.sl, .bool u.op, .string u.ui]), (1, .pointer (some ⟨gb, 0, none⟩))]) Tryz.func50 rfl Tryz.ntmps50 rfl rfl ?_
 intro Q hret hnorm hP a A
 refine wsk fun K1 hK1 => wrl (zp (vs := [.string u.nm, .int .i64 u.par, .slice u.fo u.fs.length u.fc, .slice u.mo u.ms.length u.mc, .bool u.sl, .bool u.op, .string u.ui]) (t := 33) A M rfl rfl rfl pg (zh rfl rfl) (by decide) ?_)
 intro g2 w3 M a A
 refine sda A λa A↦?_
 refine qa (hK1 _ _ (wsk fun K4 hK4 => wrl (sdo (v := .pointer (some ⟨g2, 6, none⟩)) A (qb RcB_fld_33_6 rfl rfl) λa A↦?_)))
 refine sdo A (qj M RcB_is1_9 rfl 0 rfl rfl) λa A↦?_
 refine sdo A (E.m_loadX M hg RcB_is1_9 rfl) λa A↦?_
 rcases tf (decide (u.ui = s)) with hb5 | hb5
 ·
  have hb5' := of_decide_eq_true hb5
  refine sdo (v := .bool true) A (qh rfl rfl (fun w => (jt Tryz.underlying9 w).trans (by rw [hb5] <;> rfl))) λa A↦?_
  refine sda A λa A↦?_
  refine qa (hK4 _ _ (wp_ret (hret _ _ (en1 A rfl (qe rfl) ?_))))
  exact ⟨by rw [hb5], M.bel⟩
 ·
  have hb5' := of_decide_eq_false hb5
  refine sdo (v := .bool false) A (qh rfl rfl (fun w => (jt Tryz.underlying9 w).trans (by rw [hb5] <;> rfl))) λa A↦?_
  refine sda A λa A↦?_
  refine qa (hK4 _ _ (wp_ret (hret _ _ (en1 A rfl (qe rfl) ?_))))
  exact ⟨by rw [hb5], M.bel⟩
theorem yv {w : World} {b tc rc : Nat} {tz ro : Option Addr} {ts : List Ty} {rs : List Rk} (V : SR w b tz tc ts ro rc rs) (hW : WS (ts.map Ty.k) (rs.map Rk.k)) {s : ByteArray} : Calls Tryz.prog 26 #[.pointer (some ⟨b, 0, none⟩), .string s] w fun e w' => e = .returned (.int .i64 (uix (ts.map Ty.k) s)) ∧ Below w.heap.size w w' := by
 have hkl := hW.kl
 have hrl := hW.rl
 rw [List.length_map] at hkl hrl
 have M : Mg w w ([]) := Mg.start w
 refine qm (l := [(0, .pointer (some ⟨b, 0, none⟩)), (1, .string s)]) Tryz.func26 rfl Tryz.ntmps26 rfl rfl ?_
 intro Q hret hnorm hP a A
 refine wsk fun K1 hK1 => wrl (zp (vs := [.string s]) (t := 9) A M rfl rfl rfl pg (zh rfl rfl) (by decide) ?_)
 intro g2 w3 M a A
 refine sda A λa A↦?_
 refine qa (hK1 _ _ (wsk fun K4 hK4 => wsk fun K5 hK5 => wrl (sdo A (qj M RcB_is1_9 rfl 0 rfl rfl) λa A↦?_)))
 rcases tf (decide (s = ⟨#[]⟩)) with hb6 | hb6
 ·
  have hb6' := of_decide_eq_true hb6
  refine sdo (v := .bool true) A (qh rfl rfl (fun w => (jt Tryz.underlying9 w).trans (by rw [hb6] <;> rfl))) λa A↦?_
  refine qa (hK5 _ _ (wp_cond_true (A.ev rfl) ?_))
  refine wsk fun K7 hK7 => wrl (sda A λa A↦?_)
  refine qa (hK7 _ _ (wp_ret (hret _ _ (en1 A rfl (qe rfl) ?_))))
  exact ⟨by unfold uix; rw [if_pos hb6], M.bel⟩
 ·
  have hb6' := of_decide_eq_false hb6
  refine sdo (v := .bool false) A (qh rfl rfl (fun w => (jt Tryz.underlying9 w).trans (by rw [hb6] <;> rfl))) λa A↦?_
  refine qa (hK5 _ _ (wp_cond_false (A.ev rfl) ?_))
  refine wp_skip (hK4 _ _ (wsk fun K8 hK8 => wrl (sdm A λa A↦?_)))
  refine sdo A (ql rfl) λa A↦?_
  refine sdo (v := .pointer (some ⟨b, 0, none⟩)) A (qb RcB_fld_73_0 rfl rfl) λa A↦?_
  refine sdo A (E.m_loadX M V.c0 RcB_is1_26 rfl) λa A↦?_
  refine sdo (v := .func (.func 50) #[] [.pointer (some ⟨g2, 0, none⟩)].toArray) A (ke rfl) λa A↦?_
  refine gcl A M (ef rfl rfl) (qje (p := fun t => decide (t.ui = s)) (V.T.below M.bel) (by omega) ⟨fun us w => by kernel_rfl, fun t w1 ht hb => qef ((hb.cell (cell_lt (M.cell 0 rfl 0 rfl))).trans (M.cell 0 rfl 0 rfl))⟩) fun w10 hb9 M a A => ?_
  refine sda A λa A↦?_
  refine qa (hK8 _ _ (wp_ret (hret _ _ (en1 A rfl (qe rfl) ?_))))
  exact ⟨by unfold uix; rw [if_neg (by rw [hb6]; decide), ixG_map]; rfl, M.bel⟩
theorem again_any {w : World} {b tc rc : Nat} {tz ro : Option Addr} {ts : List Ty} {rs : List Rk} (V : SR w b tz tc ts ro rc rs) (hW : WS (ts.map Ty.k) (rs.map Rk.k)) {u : Ty} (hU : TyR w u) (hul : u.fs.length ≤ 1000000) (hum : u.ms.length ≤ 1000000) {x : Int} (h0 : 0 ≤ x) (h1 : x < ((ts.length : Nat) : Int)) {y : Ty} (hy : ts[x.toNat]? = some y) : Calls Tryz.prog 27 #[.pointer (some ⟨b, 0, none⟩), .int .i64 x, .agg #[.string u.nm, .int .i64 u.par, .slice u.fo u.fs.length u.fc, .slice u.mo u.ms.length u.mc, .bool u.sl, .bool u.op, .string u.ui]] w fun e w' => e = .returned (.tuple #[.int .i64 (if xg y.k u.k = true then x else 0), .int .i64 (if xg y.k u.k = true then 0 else 8)]) ∧ Below w.heap.size w w' := by
 have M : Mg w w ([]) := Mg.start w
 refine qm (l := [(0, .pointer (some ⟨b, 0, none⟩)), (1, .int .i64 x), (2, .agg #[.string u.nm, .int .i64 u.par, .slice u.fo u.fs.length u.fc, .slice u.mo u.ms.length u.mc, .bool u.sl, .bool u.op, .string u.ui])]) Tryz.func27 rfl Tryz.ntmps27 rfl rfl ?_
 intro Q hret hnorm hP a A
 refine wsk fun K1 hK1 => wrl (zp (vs := [.string u.nm, .int .i64 u.par, .slice u.fo u.fs.length u.fc, .slice u.mo u.ms.length u.mc, .bool u.sl, .bool u.op, .string u.ui]) (t := 33) A M rfl rfl rfl pg (zh rfl rfl) (by decide) ?_)
 intro g2 w3 M a A
 iterate 2 refine sda A λa A↦?_
 refine qa (hK1 _ _ (wsk fun K4 hK4 => wsk fun K5 hK5 => ?_))
 obtain ⟨ty6, bt7, ot8, it9, mt10, rt11, lt12, Ht13⟩ := V.T.at_ (i := x.toNat) (by omega)
 have hnf := hW.nf16 (jg it9)
 have hml := hW.ml _ (List.mem_of_getElem? (jg it9))
 rw [show ty6.k.fs.length = ty6.fs.length from rfl] at hnf
 rw [show ty6.k.fs.length = ty6.fs.length from rfl, show ty6.k.ms.length = ty6.ms.length from rfl] at hml
 obtain rfl : y = ty6 := Option.some.inj (hy.symm.trans it9)
 refine jm (S := fun w1 => Mg w w1 (.obj g2 (.cells #[.string u.nm, .int .i64 u.par, .slice u.fo u.fs.length u.fc, .slice u.mo u.ms.length u.mc, .bool u.sl, .bool u.op, .string u.ui] 33) :: [])) (by kernel_rfl) ?_
 replace M := M.drew
 refine qf A 0 rfl rfl rfl rfl hP (M.sub (cc (List.nil_sublist _))) (fun w1 M => qt rfl) λa A↦?_
 refine qf A 1 rfl rfl rfl rfl hP (M.sub (cc (List.nil_sublist _))) (fun w1 M => ql rfl) λa A↦?_
 refine qf (v := .pointer (some ⟨b, 0, none⟩)) A 2 rfl rfl rfl rfl hP (M.sub (cc (List.nil_sublist _))) (fun w1 M => qb RcB_fld_73_0 rfl rfl) λa A↦?_
 refine qf A 3 rfl rfl rfl rfl hP (M.sub (cc (List.nil_sublist _))) (fun w1 M => E.m_loadX M V.c0 RcB_is1_26 rfl) λa A↦?_
 refine qf A 4 rfl rfl rfl rfl hP (M.sub (cc (List.nil_sublist _))) (fun w1 M => qt rfl) λa A↦?_
 refine qf (v := .pointer (some ⟨bt7, ot8 + x.toNat * 7, none⟩)) A 5 rfl rfl rfl rfl hP (M.sub (cc (List.nil_sublist _))) (fun w1 M => zj (k := x.toNat) Tryz.underlying26 (by kernel_rfl) rfl rfl (by first | rfl | omega) lt12 (by omega)) λa A↦?_
 refine qf (v := .agg #[.string y.nm, .int .i64 y.par, .slice y.fo y.fs.length y.fc, .slice y.mo y.ms.length y.mc, .bool y.sl, .bool y.op, .string y.ui]) A 6 rfl rfl rfl rfl hP (M.sub (cc (List.nil_sublist _))) (fun w1 M => vt M Ht13 RcB_isS_33 rfl rfl) λa A↦?_
 refine qf A 7 rfl rfl rfl rfl hP (M.sub (cc (List.nil_sublist _))) (fun w1 M => zu M RcB_isS_33 rfl 0 rfl (cs := [.string u.nm, .int .i64 u.par, .slice u.fo u.fs.length u.fc, .slice u.mo u.ms.length u.mc, .bool u.sl, .bool u.op, .string u.ui]) rfl rfl) λa A↦?_
 rcases tf (xg y.k u.k) with hb14 | hb14
 ·
  refine qs (by kernel_rfl) (zl A 8 rfl rfl rfl rfl (qx rfl rfl (fun w => by kernel_rfl)) (qlh (ya := y) (yb := u) (rt11.below M.bel) (hU.below M.bel) (by omega) (by omega) (by omega) (by omega) hb14) ?_)
  rintro _ w16 ⟨rfl, hb15⟩
  replace M := M.call hb15
  refine ⟨_, rfl, (M.sub (cc (List.nil_sublist _))), ?_⟩
  intro a A
  refine qf (v := .bool false) A 9 rfl rfl rfl rfl hP (M.sub (cc (List.nil_sublist _))) (fun w1 M => zv rfl ji) λa A↦?_
  refine zi (by kernel_rfl) ?_
  refine hK5 _ _ (wp_cond_false (A.ev rfl) ?_)
  refine wp_skip (hK4 _ _ (wsk fun K17 hK17 => wrl (sdm A λa A↦?_)))
  iterate 2 refine sda A λa A↦?_
  refine qa (hK17 _ _ (wp_ret (hret _ _ (en2 A rfl (qe rfl) (qe rfl) ?_))))
  refine ⟨?_, M.bel⟩
  rw [hb14]
  rfl
 ·
  refine qs (by kernel_rfl) (zl A 8 rfl rfl rfl rfl (qx rfl rfl (fun w => by kernel_rfl)) (qlh (ya := y) (yb := u) (rt11.below M.bel) (hU.below M.bel) (by omega) (by omega) (by omega) (by omega) hb14) ?_)
  rintro _ w19 ⟨rfl, hb18⟩
  replace M := M.call hb18
  refine ⟨_, rfl, (M.sub (cc (List.nil_sublist _))), ?_⟩
  intro a A
  refine qf (v := .bool true) A 9 rfl rfl rfl rfl hP (M.sub (cc (List.nil_sublist _))) (fun w1 M => zv rfl ji) λa A↦?_
  refine zi (by kernel_rfl) ?_
  refine hK5 _ _ (wp_cond_true (A.ev rfl) ?_)
  refine wsk fun K20 hK20 => wrl ?_
  iterate 2 refine sda A λa A↦?_
  refine qa (hK20 _ _ (wp_ret (hret _ _ (en2 A rfl (qe rfl) (qe rfl) ?_))))
  refine ⟨?_, M.bel⟩
  rw [hb14]
  rfl
theorem clBo_w {w : World} {so : Option Addr} {ca : Nat} {l : List Bool} (hb : E.Rl w so l) (hl : l.length ≤ 1000000000) : Calls Tryz.prog 54 #[.slice so l.length ca] w fun e w' => ∃ so' ca', e = .returned (.slice so' l.length ca') ∧ Mg w w' [.row 4 1 (.slice so' l.length ca') l.length (E.boolC l)] := by
 have M : Mg w w ([]) := Mg.start w
 refine qm (l := [(0, .slice so l.length ca)]) Tryz.func54 rfl Tryz.ntmps54 rfl rfl ?_
 intro Q hret hnorm hP a A
 refine wsk fun K1 hK1 => wrl (sda A λa A↦?_)
 refine qa (hK1 _ _ (wsk fun K2 hK2 => wrl (sdm A λa A↦?_)))
 replace M := M.nilRow (qk qp) 4 1
 refine xv (e := 4) (sz := 1) (k := 0) (q := 0) (m := l.length) (xs := []) (news := E.boolC l) (L' := fun v3 => (.row 4 1 (v3) (0 + l.length) ([] ++ E.boolC l) :: [])) A rfl rfl rfl (jq (z := .bool false) (sz := 1) (by_ := 1) Tryz.underlying31 (by kernel_rfl) rfl rfl rfl M 0 rfl rfl rfl (E.boolC_n l) (hb.below M.bel) (E.boolC_one l) (by omega)) (fun _ => rfl) ?_
 intro v3 w4 M a A
 refine sda A λa A↦?_
 refine qa (hK2 _ _ (wp_ret (hret _ _ (en1 A rfl (qe rfl) ?_))))
 rw [Nat.zero_add, List.nil_append] at M
 obtain ⟨so9, ca9, rfl⟩ := zn (M.has 0 rfl)
 exact ⟨_, _, rfl, M⟩
theorem jo {w : World} {u : Ty} (hU : TyR w u) (hul : u.fs.length ≤ 1000000) (hum : u.ms.length ≤ 1000000) (hz1 : u.nm.size ≤ 281474976710656) (hz2 : u.ui.size ≤ 281474976710656) (huz : ∀ s ∈ u.fs, s.size ≤ 281474976710656) : Calls Tryz.prog 29 #[.agg #[.string u.nm, .int .i64 u.par, .slice u.fo u.fs.length u.fc, .slice u.mo u.ms.length u.mc, .bool u.sl, .bool u.op, .string u.ui]] w fun e w' => ∃ t2 : Ty, e = .returned (.agg #[.string t2.nm, .int .i64 t2.par, .slice t2.fo t2.fs.length t2.fc, .slice t2.mo t2.ms.length t2.mc, .bool t2.sl, .bool t2.op, .string t2.ui]) ∧ t2.k = u.k ∧ Mg w w' [.row 9 1 (.slice t2.fo t2.fs.length t2.fc) t2.fs.length (E.strC t2.fs), .row 4 1 (.slice t2.mo t2.ms.length t2.mc) t2.ms.length (E.boolC t2.ms)] := by
 have M : Mg w w ([]) := Mg.start w
 refine qm (l := [(0, .agg #[.string u.nm, .int .i64 u.par, .slice u.fo u.fs.length u.fc, .slice u.mo u.ms.length u.mc, .bool u.sl, .bool u.op, .string u.ui])]) Tryz.func29 rfl Tryz.ntmps29 rfl rfl ?_
 intro Q hret hnorm hP a A
 refine wsk fun K1 hK1 => wrl (zp (vs := [.string u.nm, .int .i64 u.par, .slice u.fo u.fs.length u.fc, .slice u.mo u.ms.length u.mc, .bool u.sl, .bool u.op, .string u.ui]) (t := 33) A M rfl rfl rfl pg (zh rfl rfl) (by decide) ?_)
 intro g2 w3 M a A
 refine zp (vs := [.string (⟨#[]⟩), .int .i64 0, .slice none 0 0, .slice none 0 0, .bool false, .bool false, .string (⟨#[]⟩)]) (t := 33) A M rfl rfl rfl pg (zg (z := .agg #[.string (⟨#[]⟩), .int .i64 0, .slice none 0 0, .slice none 0 0, .bool false, .bool false, .string (⟨#[]⟩)]) (by kernel_rfl) rfl) (by decide) ?_
 intro g4 w5 M a A
 refine qa (hK1 _ _ (wsk fun K6 hK6 => jm (S := fun w1 => Mg w w1 (.obj g2 (.cells #[.string u.nm, .int .i64 u.par, .slice u.fo u.fs.length u.fc, .slice u.mo u.ms.length u.mc, .bool u.sl, .bool u.op, .string u.ui] 33) :: [])) (by kernel_rfl) ?_))
 replace M := M.drew
 refine qf (v := .pointer (some ⟨g2, 0, none⟩)) A 0 rfl rfl rfl rfl hP (M.sub (cn (cc (List.nil_sublist _)))) (fun w1 M => qb RcB_fld_33_0 rfl rfl) λa A↦?_
 refine qf A 1 rfl rfl rfl rfl hP (M.sub (cn (cc (List.nil_sublist _)))) (fun w1 M => qj M RcB_is1_9 rfl 0 rfl rfl) λa A↦?_
 refine qf (v := .pointer (some ⟨g2, 1, none⟩)) A 3 rfl rfl rfl rfl hP (M.sub (cn (cc (List.nil_sublist _)))) (fun w1 M => qb RcB_fld_33_1 rfl rfl) λa A↦?_
 refine qf A 4 rfl rfl rfl rfl hP (M.sub (cn (cc (List.nil_sublist _)))) (fun w1 M => qj M RcB_is1_3 rfl 0 rfl rfl) λa A↦?_
 refine qf (v := .pointer (some ⟨g2, 2, none⟩)) A 5 rfl rfl rfl rfl hP (M.sub (cn (cc (List.nil_sublist _)))) (fun w1 M => qb RcB_fld_33_2 rfl rfl) λa A↦?_
 refine qf A 6 rfl rfl rfl rfl hP (M.sub (cn (cc (List.nil_sublist _)))) (fun w1 M => qj M RcB_is1_30 rfl 0 rfl rfl) λa A↦?_
 refine qf (v := .pointer (some ⟨g2, 3, none⟩)) A 8 rfl rfl rfl rfl hP (M.sub (cn (cc (List.nil_sublist _)))) (fun w1 M => qb RcB_fld_33_3 rfl rfl) λa A↦?_
 refine qf A 9 rfl rfl rfl rfl hP (M.sub (cn (cc (List.nil_sublist _)))) (fun w1 M => qj M RcB_is1_31 rfl 0 rfl rfl) λa A↦?_
 refine qf (v := .pointer (some ⟨g2, 4, none⟩)) A 11 rfl rfl rfl rfl hP (M.sub (cn (cc (List.nil_sublist _)))) (fun w1 M => qb RcB_fld_33_4 rfl rfl) λa A↦?_
 refine qf A 12 rfl rfl rfl rfl hP (M.sub (cn (cc (List.nil_sublist _)))) (fun w1 M => qj M RcB_is1_4 rfl 0 rfl rfl) λa A↦?_
 refine qf (v := .pointer (some ⟨g2, 5, none⟩)) A 13 rfl rfl rfl rfl hP (M.sub (cn (cc (List.nil_sublist _)))) (fun w1 M => qb RcB_fld_33_5 rfl rfl) λa A↦?_
 refine qf A 14 rfl rfl rfl rfl hP (M.sub (cn (cc (List.nil_sublist _)))) (fun w1 M => qj M RcB_is1_4 rfl 0 rfl rfl) λa A↦?_
 refine qf (v := .pointer (some ⟨g2, 6, none⟩)) A 15 rfl rfl rfl rfl hP (M.sub (cn (cc (List.nil_sublist _)))) (fun w1 M => qb RcB_fld_33_6 rfl rfl) λa A↦?_
 refine qf A 16 rfl rfl rfl rfl hP (M.sub (cn (cc (List.nil_sublist _)))) (fun w1 M => qj M RcB_is1_9 rfl 0 rfl rfl) λa A↦?_
 refine qs (by kernel_rfl) (zl A 2 rfl rfl rfl rfl (qx rfl rfl (fun w => by kernel_rfl)) (clone_any (by first | exact hz1 | exact hz2)) ?_)
 rintro _ w8 ⟨rfl, hb7⟩
 replace M := M.call hb7
 refine ⟨_, rfl, (M.sub (cn (cc (List.nil_sublist _)))), ?_⟩
 intro a A
 refine qs (by kernel_rfl) (zl A 7 rfl rfl rfl rfl (qx rfl rfl (fun w => by kernel_rfl)) (E.texts_any (hU.f.below M.bel) (by omega) huz) ?_)
 rintro _ w12 ⟨so9, ca10, rfl, hM11⟩
 replace M : Mg w w12 (.row 9 1 (.slice so9 u.fs.length ca10) u.fs.length (E.strC u.fs) :: .obj g4 (.cells #[.string (⟨#[]⟩), .int .i64 0, .slice none 0 0, .slice none 0 0, .bool false, .bool false, .string (⟨#[]⟩)] 33) :: .obj g2 (.cells #[.string u.nm, .int .i64 u.par, .slice u.fo u.fs.length u.fc, .slice u.mo u.ms.length u.mc, .bool u.sl, .bool u.op, .string u.ui] 33) :: []) := (M.both hM11 (qi (by simp) (qi (by simp) (qk qp))) (qi (by simp) (qk qp)))
 refine ⟨_, rfl, (M.sub (cn (cn (cc (List.nil_sublist _))))), ?_⟩
 intro a A
 refine qs (by kernel_rfl) (zl A 10 rfl rfl rfl rfl (qx rfl rfl (fun w => by kernel_rfl)) (clBo_w (hU.m.below M.bel) (by omega)) ?_)
 rintro _ w16 ⟨so13, ca14, rfl, hM15⟩
 replace M : Mg w w16 (.row 4 1 (.slice so13 u.ms.length ca14) u.ms.length (E.boolC u.ms) :: .row 9 1 (.slice so9 u.fs.length ca10) u.fs.length (E.strC u.fs) :: .obj g4 (.cells #[.string (⟨#[]⟩), .int .i64 0, .slice none 0 0, .slice none 0 0, .bool false, .bool false, .string (⟨#[]⟩)] 33) :: .obj g2 (.cells #[.string u.nm, .int .i64 u.par, .slice u.fo u.fs.length u.fc, .slice u.mo u.ms.length u.mc, .bool u.sl, .bool u.op, .string u.ui] 33) :: []) := (M.both hM15 (qi (by simp) (qi (by simp) (qi (by simp) (qk qp)))) (qi (by simp) (qk qp)))
 refine ⟨_, rfl, (M.sub (cn (cn (cn (cc (List.nil_sublist _)))))), ?_⟩
 intro a A
 refine qs (by kernel_rfl) (zl A 17 rfl rfl rfl rfl (qx rfl rfl (fun w => by kernel_rfl)) (clone_any (by first | exact hz1 | exact hz2)) ?_)
 rintro _ w18 ⟨rfl, hb17⟩
 replace M := M.call hb17
 refine ⟨_, rfl, (M.sub (cn (cn (cn (cc (List.nil_sublist _)))))), ?_⟩
 intro a A
 refine qf (v := .agg #[.string u.nm, .int .i64 u.par, .slice so9 u.fs.length ca10, .slice so13 u.ms.length ca14, .bool u.sl, .bool u.op, .string u.ui]) A 18 rfl rfl rfl rfl hP (M.sub (cn (cn (cn (cc (List.nil_sublist _)))))) (fun w1 M => zk rfl (fun w => by kernel_rfl)) λa A↦?_
 refine qs (by kernel_rfl) (jx (us := [.string u.nm, .int .i64 u.par, .slice so9 u.fs.length ca10, .slice so13 u.ms.length ca14, .bool u.sl, .bool u.op, .string u.ui]) (L' := (.row 4 1 (.slice so13 u.ms.length ca14) u.ms.length (E.boolC u.ms) :: .row 9 1 (.slice so9 u.fs.length ca10) u.fs.length (E.strC u.fs) :: .obj g4 (.cells #[.string u.nm, .int .i64 u.par, .slice so9 u.fs.length ca10, .slice so13 u.ms.length ca14, .bool u.sl, .bool u.op, .string u.ui] 33) :: .obj g2 (.cells #[.string u.nm, .int .i64 u.par, .slice u.fo u.fs.length u.fc, .slice u.mo u.ms.length u.mc, .bool u.sl, .bool u.op, .string u.ui] 33) :: [])) A M 19 rfl rfl rfl (qy rfl rfl rfl (by kernel_rfl) M 2 rfl rfl rfl) 2 rfl rfl rfl ?_)
 intro w19 M
 refine ⟨(M.sub (cn (cn (cn (cc (List.nil_sublist _)))))), ?_⟩
 refine zi (by kernel_rfl) ?_
 refine hK6 _ _ (wp_ret (hret _ _ (en1 A rfl (jk M RcB_isS_33 rfl 2 rfl (cs := [.string u.nm, .int .i64 u.par, .slice so9 u.fs.length ca10, .slice so13 u.ms.length ca14, .bool u.sl, .bool u.op, .string u.ui]) rfl rfl) ?_)))
 replace M : Mg w w19 (.row 9 1 (.slice so9 u.fs.length ca10) u.fs.length (E.strC u.fs) :: .row 4 1 (.slice so13 u.ms.length ca14) u.ms.length (E.boolC u.ms) :: .obj g4 (.cells #[.string u.nm, .int .i64 u.par, .slice so9 u.fs.length ca10, .slice so13 u.ms.length ca14, .bool u.sl, .bool u.op, .string u.ui] 33) :: .obj g2 (.cells #[.string u.nm, .int .i64 u.par, .slice u.fo u.fs.length u.fc, .slice u.mo u.ms.length u.mc, .bool u.sl, .bool u.op, .string u.ui] 33) :: []) := M.bring 1 rfl rfl
 replace M : Mg w w19 (.row 9 1 (.slice so9 u.fs.length ca10) u.fs.length (E.strC u.fs) :: .row 4 1 (.slice so13 u.ms.length ca14) u.ms.length (E.boolC u.ms) :: []) := by
  have h9 := M.sub (cc (cc (cn (cn (.refl _)))))
  exact h9
 exact ⟨⟨u.nm, u.par, so9, ca10, u.fs, so13, ca14, u.ms, u.sl, u.op, u.ui⟩, rfl, rfl, M⟩
section
variable {ts : List Ty} {rs : List Rk} {r t i : Int}
theorem isS_r (h : okT rs.length r = false) : isS (ts.map Ty.k) (rs.map Rk.k) r t = (false, 7) := by
  unfold isS
  rw [if_neg (by rw [List.length_map, h]; simp)]
theorem isS_t (h : okT ts.length t = false) : isS (ts.map Ty.k) (rs.map Rk.k) r t = (false, 7) := by
  unfold isS
  rw [if_neg (by rw [List.length_map, List.length_map, h]; simp)]
theorem isS_ok (h1 : okT rs.length r = true) (h2 : okT ts.length t = true) {x : Rk} (hx : rs[r.toNat]? = some x) : isS (ts.map Ty.k) (rs.map Rk.k) r t = ((chT (prs (ts.map Ty.k)) ((x.kd : Nat) : Int)).any fun z => t == z, 0) := by
  unfold isS
  rw [if_pos (by rw [List.length_map, List.length_map]; exact ⟨h1, h2⟩), rkd_at (ku hx)]
  rfl
theorem qge {ks : List TK} {rr : List (Nat × List Tr)} (h : (isS ks rr r t).2 = 0) : okT rr.length r = true ∧ okT ks.length t = true := by
  unfold isS at h
  split at h
  · rename_i h1; exact h1
  · exact absurd h (by decide)
theorem isS_err {ks : List TK} {rr : List (Nat × List Tr)} (h : (isS ks rr r t).2 ≠ 0) : isS ks rr r t = (false, 7) := by
  unfold isS at h ⊢
  split at h
  · exact absurd rfl h
  · rename_i h1; rw [if_neg h1]
theorem qli {ks : List TK} {rr : List (Nat × List Tr)} (h : (isS ks rr r t).2 ≠ 0) : plS ks rr r t i = (0, (isS ks rr r t).2) := by
  rw [isS_err h]
  unfold plS
  rw [if_neg h]
theorem qgf {ks : List TK} {rr : List (Nat × List Tr)} (h : (isS ks rr r t).2 = 0) (h1 : (isS ks rr r t).1 = false) : plS ks rr r t i = (0, 10) := by
  unfold plS
  rw [if_pos h, if_neg (by rw [h1]; decide)]
theorem qeg {ks : List TK} {rr : List (Nat × List Tr)} (h : (isS ks rr r t).2 = 0) (h1 : (isS ks rr r t).1 = true) {k : TK} (hk : ks[t.toNat]? = some k) (hi : i < 0 ∨ ((k.fs.length : Nat) : Int) ≤ i) : plS ks rr r t i = (0, 1) := by
  unfold plS
  rw [if_pos h, if_pos h1, if_neg (by rw [uw hk]; omega)]
theorem plS_ok {ks : List TK} {rr : List (Nat × List Tr)} (h : (isS ks rr r t).2 = 0) (h1 : (isS ks rr r t).1 = true) {k : TK} (hk : ks[t.toNat]? = some k) (h2 : 0 ≤ i) (h3 : i < ((k.fs.length : Nat) : Int)) : plS ks rr r t i = (((cnt ks k.par : Nat) : Int) + i, 0) := by
  unfold plS
  rw [if_pos h, if_pos h1, uw hk, if_pos ⟨h2, h3⟩, qid hk]
end
theorem qgg {ps : List Int} (hw : Wf ps) : ∀ (n : Nat) (s t : Int), -1 ≤ s → (s + 1).toNat ≤ n → t ∈ chn ps n s → ∃ pre, chn ps n s = pre ++ chT ps t
  | 0, s, t, _, _, h => by cases h
  | n + 1, s, t, h0, hn, h => by
    by_cases hs : s < 0
    · rw [chn, if_pos hs] at h; cases h
    · have hp := hw.at_ (t := s) (by omega)
      by_cases e : t = s
      · subst e
        exact ⟨[], by rw [List.nil_append]; exact uu hw _ _ _ h0 hn (Nat.le_refl _)⟩
      · rw [chn, if_neg hs] at h ⊢
        rcases List.mem_cons.1 h with h | h
        · exact absurd h e
        · obtain ⟨pre, hq⟩ := qgg hw n _ t hp.1 (by omega) h
          exact ⟨s :: pre, by rw [hq]; rfl⟩
theorem cntP_le {ks : List TK} (hw : Wf (prs ks)) {s t : Int} (h0 : -1 ≤ s) (h : t ∈ chT (prs ks) s) : cnt ks t ≤ cnt ks s := by
  obtain ⟨pre, e⟩ := qgg hw _ s t h0 (Nat.le_refl _) h
  unfold cnt
  rw [show chT (prs ks) s = pre ++ chT (prs ks) t from e]
  unfold qah
  rw [List.map_append, List.sum_append]
  omega
/-- A field that is found. -/
theorem pl_in {ks : List TK} {rr : List (Nat × List Tr)} (hW : WS ks rr) {r t i : Int} (h : (plS ks rr r t i).2 = 0) : ∃ x k, rr[r.toNat]? = some x ∧ ks[t.toNat]? = some k ∧ 0 ≤ r ∧ r < ((rr.length : Nat) : Int) ∧ 0 ≤ t ∧ t < ((ks.length : Nat) : Int) ∧ 0 ≤ i ∧ i < ((k.fs.length : Nat) : Int) ∧ plS ks rr r t i = (((cnt ks k.par : Nat) : Int) + i, 0) ∧ 0 ≤ (plS ks rr r t i).1 ∧ (plS ks rr r t i).1 < ((x.2.length : Nat) : Int) ∧ x.2.length ≤ 16 := by
  by_cases h1 : (isS ks rr r t).2 = 0
  · obtain ⟨q1, q2⟩ := qge h1
    have a1 := kf q1
    have a2 := kf q2
    cases h2 : (isS ks rr r t).1 with
    | false => rw [qgf h1 h2] at h; exact absurd h (by decide)
    | true =>
      have hk : ks[t.toNat]? = some (ks[t.toNat]'(by omega)) := List.getElem?_eq_getElem _
      have hx : rr[r.toNat]? = some (rr[r.toNat]'(by omega)) := List.getElem?_eq_getElem _
      generalize ks[t.toNat]'(by omega) = k at hk
      generalize rr[r.toNat]'(by omega) = x at hx
      by_cases h3 : 0 ≤ i ∧ i < ((k.fs.length : Nat) : Int)
      · have e := plS_ok h1 h2 hk h3.1 h3.2
        have hr := hW.rk x (List.mem_of_getElem? hx)
        have hm : t ∈ chT (prs ks) ((x.1 : Nat) : Int) := by
          unfold isS at h2
          rw [if_pos ⟨q1, q2⟩, rkd_at hx] at h2
          obtain ⟨z, hz, ez⟩ := List.any_eq_true.1 h2
          rw [show t = z from eq_of_beq ez]
          exact hz
        have hc := cntP_le hW.wf (by omega) hm
        have hs := ux hW.wf a2.1 hk
        have h16 := hW.cnt16 (t := ((x.1 : Nat) : Int)) (by omega)
        refine ⟨x, k, hx, hk, a1.1, a1.2, a2.1, a2.2, h3.1, h3.2, e, ?_, ?_, by omega⟩
        · rw [e]; show 0 ≤ ((cnt ks k.par : Nat) : Int) + i; omega
        · rw [e]; show ((cnt ks k.par : Nat) : Int) + i < _; omega
      · rw [qeg h1 h2 hk (by omega)] at h; exact absurd h (by show (1 : Int) ≠ 0; decide)
  · rw [qli h1] at h; exact absurd h h1
/-- Get: the datum. -/
def gtT (ks : List TK) (rr : List (Nat × List Tr)) (r t i : Int) : Tr :=
  if (plS ks rr r t i).2 = 0 then (((rr[r.toNat]?).map fun x => (x.2[(plS ks rr r t i).1.toNat]?).getD zm.tr).getD zm.tr) else zm.tr
theorem gtT_ok {ks : List TK} {rr : List (Nat × List Tr)} {r t i : Int} (h : (plS ks rr r t i).2 = 0) {x : Nat × List Tr} (hx : rr[r.toNat]? = some x) {d : Tr} (hd : x.2[(plS ks rr r t i).1.toNat]? = some d) : gtT ks rr r t i = d := by
  unfold gtT
  rw [if_pos h, hx]
  show (x.2[(plS ks rr r t i).1.toNat]?).getD zm.tr = d
  rw [hd]; rfl
theorem gtT_no {ks : List TK} {rr : List (Nat × List Tr)} {r t i : Int} (h : (plS ks rr r t i).2 ≠ 0) : gtT ks rr r t i = zm.tr := if_neg h
theorem mkS_no {ts : List Ty} {n : Nat} {t : Int} {vs : List Tr} (h : okT ts.length t = false) : mkS (ts.map Ty.k) n t vs = (0, 7, false) := by
  unfold mkS
  rw [if_neg (by rw [List.length_map, h]; decide)]
theorem mkS_arg {ts : List Ty} {n : Nat} {t : Int} {vs : List Tr} (h : okT ts.length t = true) (h1 : vs.length ≠ cnt (ts.map Ty.k) t) : mkS (ts.map Ty.k) n t vs = (0, 1, false) := by
  unfold mkS
  rw [if_pos (by rw [List.length_map]; exact h), if_neg h1]
theorem mkS_form {ts : List Ty} {n : Nat} {t : Int} {vs : List Tr} (h : okT ts.length t = true) (h1 : vs.length = cnt (ts.map Ty.k) t) (h2 : vs.all (jp ja) = false) : mkS (ts.map Ty.k) n t vs = (0, 2, false) := by
  unfold mkS
  rw [if_pos (by rw [List.length_map]; exact h), if_pos h1, if_neg (by rw [h2]; decide)]
theorem mkS_full {ts : List Ty} {n : Nat} {t : Int} {vs : List Tr} (h : okT ts.length t = true) (h1 : vs.length = cnt (ts.map Ty.k) t) (h2 : vs.all (jp ja) = true) (h3 : ¬ n < 20000) : mkS (ts.map Ty.k) n t vs = (0, 9, false) := by
  unfold mkS
  rw [if_pos (by rw [List.length_map]; exact h), if_pos h1, if_pos h2, if_neg h3]
theorem mkS_ok {ts : List Ty} {n : Nat} {t : Int} {vs : List Tr} (h : okT ts.length t = true) (h1 : vs.length = cnt (ts.map Ty.k) t) (h2 : vs.all (jp ja) = true) (h3 : n < 20000) : mkS (ts.map Ty.k) n t vs = (((n : Nat) : Int), 0, true) := by
  unfold mkS
  rw [if_pos (by rw [List.length_map]; exact h), if_pos h1, if_pos h2, if_pos h3]
theorem RcC_is1_26 : Is1 Tryz.prog 26 := ⟨⟨_, Tryz.underlying26, rfl⟩, by kernel_rfl⟩
theorem RcC_is1_3 : Is1 Tryz.prog 3 := ⟨⟨_, Tryz.underlying3, rfl⟩, by kernel_rfl⟩
theorem RcC_is1_30 : Is1 Tryz.prog 30 := ⟨⟨_, Tryz.underlying30, rfl⟩, by kernel_rfl⟩
theorem RcC_is1_34 : Is1 Tryz.prog 34 := ⟨⟨_, Tryz.underlying34, rfl⟩, by kernel_rfl⟩
theorem RcC_is1_71 : Is1 Tryz.prog 71 := ⟨⟨_, Tryz.underlying71, rfl⟩, by kernel_rfl⟩
theorem RcC_fld_33_1 : FieldAt Tryz.prog 33 1 1 := ⟨_, _, Tryz.underlying33, rfl, rfl, by kernel_rfl⟩
theorem RcC_fld_33_2 : FieldAt Tryz.prog 33 2 2 := ⟨_, _, Tryz.underlying33, rfl, rfl, by kernel_rfl⟩
theorem RcC_fld_73_0 : FieldAt Tryz.prog 73 0 0 := ⟨_, _, Tryz.underlying73, rfl, rfl, by kernel_rfl⟩
theorem RcC_fld_73_1 : FieldAt Tryz.prog 73 1 1 := ⟨_, _, Tryz.underlying73, rfl, rfl, by kernel_rfl⟩
theorem RcC_fld_86_0 : FieldAt Tryz.prog 86 0 0 := ⟨_, _, Tryz.underlying86, rfl, rfl, by kernel_rfl⟩
theorem RcC_fld_86_1 : FieldAt Tryz.prog 86 1 1 := ⟨_, _, Tryz.underlying86, rfl, rfl, by kernel_rfl⟩
theorem RcC_isS_42 : IsS Tryz.prog 42 11 := ⟨⟨_, Tryz.underlying42⟩, by kernel_rfl⟩
theorem is_any {w : World} {b tc rc : Nat} {tz ro : Option Addr} {ts : List Ty} {rs : List Rk} (S : SR w b tz tc ts ro rc rs) (hW : WS (ts.map Ty.k) (rs.map Rk.k)) {r t : Int} : Calls Tryz.prog 18 #[.pointer (some ⟨b, 0, none⟩), .int .i64 r, .int .i64 t] w fun e w' => e = .returned (.tuple #[.bool (isS (ts.map Ty.k) (rs.map Rk.k) r t).1, .int .i64 (isS (ts.map Ty.k) (rs.map Rk.k) r t).2]) ∧ Below w.heap.size w w' := by
 have hkl := hW.kl
 have hrl := hW.rl
 rw [List.length_map] at hkl hrl
 have M : Mg w w ([]) := Mg.start w
 refine qm (l := [(0, .pointer (some ⟨b, 0, none⟩)), (1, .int .i64 r), (2, .int .i64 t)]) Tryz.func18 rfl Tryz.ntmps18 rfl rfl ?_
 intro Q hret hnorm hP a A
 refine wsk fun K1 hK1 => wrl ?_
 iterate 2 refine sda A λa A↦?_
 refine qa (hK1 _ _ (wsk fun K2 hK2 => wsk fun K3 hK3 => wrl ?_))
 iterate 2 refine sdm A λa A↦?_
 rcases tf (okT rs.length r) with hb4 | hb4
 ·
  have hx6 := kf hb4
  refine gcl A M (ef rfl rfl) (qaj (S.below M.bel) hW hb4) fun w7 hb5 M a A => ?_
  refine sda A λa A↦?_
  refine qa (hK3 _ _ (wsk fun K8 hK8 => wrl (sdm A λa A↦?_)))
  refine sdo (v := .bool false) A (qh rfl rfl (fun w => by kernel_rfl)) λa A↦?_
  refine qa (hK8 _ _ (wp_cond_false (A.ev rfl) ?_))
  refine wp_skip (hK2 _ _ (wsk fun K9 hK9 => wsk fun K10 hK10 => wrl ?_))
  iterate 2 refine sdm A λa A↦?_
  rcases tf (okT ts.length t) with hb11 | hb11
  ·
   have hx13 := kf hb11
   refine gcl A M (ef rfl rfl) (vb (S.below M.bel) hW hb11) fun w14 hb12 M a A => ?_
   refine sda A λa A↦?_
   refine qa (hK10 _ _ (wsk fun K15 hK15 => wrl (sdm A λa A↦?_)))
   refine sdo (v := .bool false) A (qh rfl rfl (fun w => by kernel_rfl)) λa A↦?_
   refine qa (hK15 _ _ (wp_cond_false (A.ev rfl) ?_))
   refine wp_skip (hK9 _ _ (wsk fun K16 hK16 => ?_))
   obtain ⟨rk17, br18, or19, ir20, mr21, rr22, lr23, Hr24⟩ := S.R.at_ (i := r.toNat) (by omega)
   have hrk25 := hW.rk _ (List.mem_of_getElem? (ku ir20))
   rw [List.length_map, show rk17.k.1 = rk17.kd from rfl, show rk17.k.2.length = rk17.vs.length from List.length_map _] at hrk25
   refine wrl ?_
   iterate 2 refine sdm A λa A↦?_
   refine sdo A (ql rfl) λa A↦?_
   refine sdo (v := .pointer (some ⟨b, 1, none⟩)) A (qb RcC_fld_73_1 rfl rfl) λa A↦?_
   refine sdo A (E.m_loadX M S.c1 RcC_is1_71 rfl) λa A↦?_
   refine sdm A λa A↦?_
   refine sdo (v := .pointer (some ⟨br18, or19 + r.toNat * 2, none⟩)) A (zj (k := r.toNat) Tryz.underlying71 (by kernel_rfl) rfl rfl (by first | rfl | omega) lr23 (by omega)) λa A↦?_
   refine sdo (v := .pointer (some ⟨br18, or19 + r.toNat * 2, none⟩)) A (qb RcC_fld_86_0 rfl rfl) λa A↦?_
   refine sdo A (jy (j := 0) M Hr24 RcC_is1_3 rfl rfl rfl) λa A↦?_
   refine sct A (ef rfl rfl) (qcb (S.below M.bel) hW (by omega) (by omega)) ?_
   rintro _ w29 ⟨so26, ca27, rfl, hM28⟩
   replace M : Mg w w29 (.row 3 1 (.slice so26 ((chT (prs (ts.map Ty.k)) (((rk17.kd : Nat) : Int))).length) ca27) ((chT (prs (ts.map Ty.k)) (((rk17.kd : Nat) : Int))).length) (inC (chT (prs (ts.map Ty.k)) (((rk17.kd : Nat) : Int)))) :: []) := (M.both hM28 (qk qp) (qi (by simp) (qk qp)))
   refine ⟨_, rfl, ?_⟩
   intro a A
   refine sdm A λa A↦?_
   refine gcl A M (ef rfl rfl) (qai (l := (chT (prs (ts.map Ty.k)) (((rk17.kd : Nat) : Int)))) (rc_own (M.has 0 rfl)) (by have h9 := qdi (prs (ts.map Ty.k)) (((rk17.kd : Nat) : Int)); omega)) fun w31 hb30 M a A => ?_
   iterate 2 refine sda A λa A↦?_
   refine qa (hK16 _ _ (wp_ret (hret _ _ (en2 A rfl (qe rfl) (qe rfl) ?_))))
   exact ⟨by rw [isS_ok hb4 hb11 ir20], M.bel⟩
  ·
   have hx33 := qld hb11
   refine gcl A M (ef rfl rfl) (vw (S.below M.bel) hW hb11) fun w34 hb32 M a A => ?_
   refine sda A λa A↦?_
   refine qa (hK10 _ _ (wsk fun K35 hK35 => wrl (sdm A λa A↦?_)))
   refine sdo (v := .bool true) A (qh rfl rfl (fun w => by kernel_rfl)) λa A↦?_
   refine qa (hK35 _ _ (wp_cond_true (A.ev rfl) ?_))
   refine wsk fun K36 hK36 => wrl (sdm A λa A↦?_)
   iterate 2 refine sda A λa A↦?_
   refine qa (hK36 _ _ (wp_ret (hret _ _ (en2 A rfl (qe rfl) (qe rfl) ?_))))
   exact ⟨by rw [isS_t hb11], M.bel⟩
 ·
  have hx38 := qld hb4
  refine gcl A M (ef rfl rfl) (qba (S.below M.bel) hW hb4) fun w39 hb37 M a A => ?_
  refine sda A λa A↦?_
  refine qa (hK3 _ _ (wsk fun K40 hK40 => wrl (sdm A λa A↦?_)))
  refine sdo (v := .bool true) A (qh rfl rfl (fun w => by kernel_rfl)) λa A↦?_
  refine qa (hK40 _ _ (wp_cond_true (A.ev rfl) ?_))
  refine wsk fun K41 hK41 => wrl (sdm A λa A↦?_)
  iterate 2 refine sda A λa A↦?_
  refine qa (hK41 _ _ (wp_ret (hret _ _ (en2 A rfl (qe rfl) (qe rfl) ?_))))
  exact ⟨by rw [isS_r hb4], M.bel⟩
theorem place_any {w : World} {b tc rc : Nat} {tz ro : Option Addr} {ts : List Ty} {rs : List Rk} (S : SR w b tz tc ts ro rc rs) (hW : WS (ts.map Ty.k) (rs.map Rk.k)) {r t i : Int} : Calls Tryz.prog 37 #[.pointer (some ⟨b, 0, none⟩), .int .i64 r, .int .i64 t, .int .i64 i] w fun e w' => e = .returned (.tuple #[.int .i64 (plS (ts.map Ty.k) (rs.map Rk.k) r t i).1, .int .i64 (plS (ts.map Ty.k) (rs.map Rk.k) r t i).2]) ∧ Below w.heap.size w w' := by
 have hkl := hW.kl
 have hrl := hW.rl
 rw [List.length_map] at hkl hrl
 have M : Mg w w ([]) := Mg.start w
 refine qm (l := [(0, .pointer (some ⟨b, 0, none⟩)), (1, .int .i64 r), (2, .int .i64 t), (3, .int .i64 i)]) Tryz.func37 rfl Tryz.ntmps37 rfl rfl ?_
 intro Q hret hnorm hP a A
 refine wsk fun K1 hK1 => wrl ?_
 iterate 2 refine sda A λa A↦?_
 refine qa (hK1 _ _ (wsk fun K2 hK2 => wrl ?_))
 iterate 3 refine sdm A λa A↦?_
 refine gcl A M (ef rfl rfl) (is_any (S.below M.bel) hW) fun w4 hb3 M a A => ?_
 refine sdm A λa A↦?_
 iterate 2 refine sdo A (za (vs := [.bool ((isS (ts.map Ty.k) (rs.map Rk.k) r t).1), .int .i64 ((isS (ts.map Ty.k) (rs.map Rk.k) r t).2)]) rfl rfl) λa A↦?_
 iterate 2 refine sda A λa A↦?_
 refine qa (hK2 _ _ (wsk fun K5 hK5 => wp_block (wsk fun K6 hK6 => wrl (sdm A λa A↦?_))))
 rcases tf (((isS (ts.map Ty.k) (rs.map Rk.k) r t).2 != 0)) with hb7 | hb7
 ·
  have hb7' := bne_iff_ne.1 hb7
  refine sdc A jj hb7 λa A↦?_
  refine sda A λa A↦?_
  refine qa (hK6 _ _ (wp_cond_true (A.ev rfl) ?_))
  refine wsk fun K8 hK8 => wrl (sdm A λa A↦?_)
  iterate 2 refine sda A λa A↦?_
  refine qa (hK8 _ _ (wp_ret (hret _ _ (en2 A rfl (qe rfl) (qe rfl) ?_))))
  exact ⟨by rw [qli (i := i) (show (isS (ts.map Ty.k) (rs.map Rk.k) r t).2 ≠ 0 by omega)], M.bel⟩
 ·
  have hb7' := bne_eq_false_iff_eq.1 hb7
  refine sdc A jj hb7 λa A↦?_
  refine sda A λa A↦?_
  refine qa (hK6 _ _ (wp_cond_false (A.ev rfl) ?_))
  refine wsk fun K9 hK9 => wrl (sdm A λa A↦?_)
  refine sdo (v := .bool (!((isS (ts.map Ty.k) (rs.map Rk.k) r t).1))) A (zv rfl ji) λa A↦?_
  refine sda A λa A↦?_
  refine qa (hK9 _ _ ?_)
  refine wp_cond_split (t := !((isS (ts.map Ty.k) (rs.map Rk.k) r t).1)) (A.ev rfl) (fun hc10 => ?_) (fun hc10 => ?_)
  ·
   refine wsk fun K11 hK11 => wrl ?_
   iterate 2 refine sda A λa A↦?_
   refine qa (hK11 _ _ (wp_ret (hret _ _ (en2 A rfl (qe rfl) (qe rfl) ?_))))
   exact ⟨by rw [qgf (i := i) (show (isS (ts.map Ty.k) (rs.map Rk.k) r t).2 = 0 by omega) (by simpa using hc10)], M.bel⟩
  ·
   refine wsk fun K12 hK12 => ?_
   have hz9 := qge (show (isS (ts.map Ty.k) (rs.map Rk.k) r t).2 = 0 by omega)
   rw [List.length_map, List.length_map] at hz9
   have hr9 := kf hz9.1
   have ht9 := kf hz9.2
   obtain ⟨ty13, bt14, ot15, it16, mt17, rt18, lt19, Ht20⟩ := S.T.at_ (i := t.toNat) (by omega)
   have hnf := hW.nf16 (jg it16)
   have hpl := hW.par_lt (jg it16)
   rw [show ty13.k.fs.length = ty13.fs.length from rfl, show ty13.k.par = ty13.par from rfl] at hnf
   rw [show ty13.k.par = ty13.par from rfl] at hpl
   refine wrl (sdm A λa A↦?_)
   rcases tf (decide (i < 0)) with hb21 | hb21
   ·
    have hb21' := of_decide_eq_true hb21
    refine sdc A ze hb21 λa A↦?_
    refine sdm A λa A↦?_
    iterate 11 refine qn A rfl rfl rfl λa A↦?_
    refine sdk (v := .bool true) A λa A↦?_
    refine sda A λa A↦?_
    refine qa (hK12 _ _ (wp_cond_true (A.ev rfl) ?_))
    refine wsk fun K22 hK22 => wrl ?_
    iterate 2 refine sda A λa A↦?_
    refine qa (hK22 _ _ (wp_ret (hret _ _ (en2 A rfl (qe rfl) (qe rfl) ?_))))
    exact ⟨by rw [qeg (show (isS (ts.map Ty.k) (rs.map Rk.k) r t).2 = 0 by omega) (by simpa using hc10) (jg it16) (show i < 0 ∨ ((ty13.fs.length : Nat) : Int) ≤ i by omega)], M.bel⟩
   ·
    have hb21' := of_decide_eq_false hb21
    refine sdc A ze hb21 λa A↦?_
    iterate 3 refine sdm A λa A↦?_
    refine sdo A (ql rfl) λa A↦?_
    refine sdo (v := .pointer (some ⟨b, 0, none⟩)) A (qb RcC_fld_73_0 rfl rfl) λa A↦?_
    refine sdo A (E.m_loadX M S.c0 RcC_is1_26 rfl) λa A↦?_
    refine sdm A λa A↦?_
    refine sdo (v := .pointer (some ⟨bt14, ot15 + t.toNat * 7, none⟩)) A (zj (k := t.toNat) Tryz.underlying26 (by kernel_rfl) rfl rfl (by first | rfl | omega) lt19 (by omega)) λa A↦?_
    refine sdo (v := .pointer (some ⟨bt14, ot15 + t.toNat * 7 + 2, none⟩)) A (qb RcC_fld_33_2 rfl rfl) λa A↦?_
    refine sdo A (jy (j := 2) M Ht20 RcC_is1_30 rfl rfl rfl) λa A↦?_
    refine sdo A (qr Tryz.underlying30 rfl) λa A↦?_
    rcases tf (decide (((ty13.fs.length : Nat) : Int) ≤ i)) with hb23 | hb23
    ·
     have hb23' := of_decide_eq_true hb23
     refine sdc A zt hb23 λa A↦?_
     refine sdk (v := .bool true) A λa A↦?_
     refine sda A λa A↦?_
     refine qa (hK12 _ _ (wp_cond_true (A.ev rfl) ?_))
     refine wsk fun K24 hK24 => wrl ?_
     iterate 2 refine sda A λa A↦?_
     refine qa (hK24 _ _ (wp_ret (hret _ _ (en2 A rfl (qe rfl) (qe rfl) ?_))))
     exact ⟨by rw [qeg (show (isS (ts.map Ty.k) (rs.map Rk.k) r t).2 = 0 by omega) (by simpa using hc10) (jg it16) (show i < 0 ∨ ((ty13.fs.length : Nat) : Int) ≤ i by omega)], M.bel⟩
    ·
     have hb23' := of_decide_eq_false hb23
     refine sdc A zt hb23 λa A↦?_
     refine sdk (v := .bool false) A λa A↦?_
     refine sda A λa A↦?_
     refine qa (hK12 _ _ (wp_cond_false (A.ev rfl) ?_))
     refine wp_skip (hK5 _ _ (wsk fun K25 hK25 => wrl ?_))
     iterate 2 refine sdm A λa A↦?_
     refine sdo A (ql rfl) λa A↦?_
     refine sdo (v := .pointer (some ⟨b, 0, none⟩)) A (qb RcC_fld_73_0 rfl rfl) λa A↦?_
     refine sdo A (E.m_loadX M S.c0 RcC_is1_26 rfl) λa A↦?_
     refine sdm A λa A↦?_
     refine sdo (v := .pointer (some ⟨bt14, ot15 + t.toNat * 7, none⟩)) A (zj (k := t.toNat) Tryz.underlying26 (by kernel_rfl) rfl rfl (by first | rfl | omega) lt19 (by omega)) λa A↦?_
     refine sdo (v := .pointer (some ⟨bt14, ot15 + t.toNat * 7 + 1, none⟩)) A (qb RcC_fld_33_1 rfl rfl) λa A↦?_
     refine sdo A (jy (j := 1) M Ht20 RcC_is1_3 rfl rfl rfl) λa A↦?_
     refine gcl A M (ef rfl rfl) (xk (S.below M.bel) hW (by omega) (by omega)) fun w27 hb26 M a A => ?_
     refine sdm A λa A↦?_
     refine sdo (v := .int .i64 (((cnt (ts.map Ty.k) ty13.par : Nat) : Int) + i)) A (qh rfl rfl (jf (je (by omega) (by omega)))) λa A↦?_
     iterate 2 refine sda A λa A↦?_
     refine qa (hK25 _ _ (wp_ret (hret _ _ (en2 A rfl (qe rfl) (qe rfl) ?_))))
     exact ⟨by rw [plS_ok (show (isS (ts.map Ty.k) (rs.map Rk.k) r t).2 = 0 by omega) (by simpa using hc10) (jg it16) (show 0 ≤ i by omega) (show i < ((ty13.fs.length : Nat) : Int) by omega)]; rfl, M.bel⟩
theorem get_any {w : World} {b tc rc : Nat} {tz ro : Option Addr} {ts : List Ty} {rs : List Rk} (S : SR w b tz tc ts ro rc rs) (hW : WS (ts.map Ty.k) (rs.map Rk.k)) {r t i : Int} : Calls Tryz.prog 13 #[.pointer (some ⟨b, 0, none⟩), .int .i64 r, .int .i64 t, .int .i64 i] w fun e w' => ∃ d2 : Dt, e = .returned (.tuple #[.agg (d2.d.cells d2.ts.length).toArray, .int .i64 (plS (ts.map Ty.k) (rs.map Rk.k) r t i).2]) ∧ (d2.rd w' ∧ d2.tr = gtT (ts.map Ty.k) (rs.map Rk.k) r t i ∧ d2.at_ (w.heap.size ≤ ·)) ∧ Below w.heap.size w w' := by
 have hkl := hW.kl
 have hrl := hW.rl
 rw [List.length_map] at hkl hrl
 have M : Mg w w ([]) := Mg.start w
 refine qm (l := [(0, .pointer (some ⟨b, 0, none⟩)), (1, .int .i64 r), (2, .int .i64 t), (3, .int .i64 i)]) Tryz.func13 rfl Tryz.ntmps13 rfl rfl ?_
 intro Q hret hnorm hP a A
 refine wsk fun K1 hK1 => wrl (zp (vs := (zm.d.cells zm.ts.length)) (t := 42) A M rfl rfl rfl pg (zg (z := .agg (zm.d.cells zm.ts.length).toArray) (by kernel_rfl) rfl) (by decide) ?_)
 intro g2 w3 M a A
 refine sda A λa A↦?_
 refine qa (hK1 _ _ (wsk fun K4 hK4 => wrl ?_))
 iterate 4 refine sdm A λa A↦?_
 refine gcl A M (ef rfl rfl) (place_any (S.below M.bel) hW) fun w6 hb5 M a A => ?_
 refine sdm A λa A↦?_
 iterate 2 refine sdo A (za (vs := [.int .i64 ((plS (ts.map Ty.k) (rs.map Rk.k) r t i).1), .int .i64 ((plS (ts.map Ty.k) (rs.map Rk.k) r t i).2)]) rfl rfl) λa A↦?_
 iterate 2 refine sda A λa A↦?_
 refine qa (hK4 _ _ (wsk fun K7 hK7 => wsk fun K8 hK8 => wrl (sdm A λa A↦?_)))
 rcases tf (((plS (ts.map Ty.k) (rs.map Rk.k) r t i).2 != 0)) with hb9 | hb9
 ·
  have hb9' := bne_iff_ne.1 hb9
  refine sdc A jj hb9 λa A↦?_
  refine qa (hK8 _ _ (wp_cond_true (A.ev rfl) ?_))
  refine wsk fun K10 hK10 => wrl (sdo (v := .agg (zm.d.cells zm.ts.length).toArray) A (zk rfl (fun w => by kernel_rfl)) λa A↦?_)
  refine sdm A λa A↦?_
  refine zf (us := (zm.d.cells zm.ts.length)) (L' := (.obj g2 (.cells (zm.d.cells zm.ts.length).toArray 42) :: [])) A M rfl rfl (qy rfl rfl rfl (by kernel_rfl) M 0 rfl rfl rfl) 0 rfl rfl rfl ?_
  intro w11 M
  refine sda A λa A↦?_
  refine qa (hK10 _ _ (wp_ret (hret _ _ (en2 A rfl (jk M RcC_isS_42 rfl 0 rfl (cs := [.int .i64 0, .int .i64 0, .bool false, .slice none 0 0, .slice none 0 0, .bool false, .slice none 0 0, .slice none 0 0, .string (⟨#[]⟩), .slice none 0 0, .slice none 0 0]) rfl rfl) (qe rfl) ?_))))
  exact ⟨zm, rfl, ⟨zeroD_rd _, (gtT_no (show (plS (ts.map Ty.k) (rs.map Rk.k) r t i).2 ≠ 0 by omega)).symm, zeroD_at _⟩, M.bel⟩
 ·
  have hb9' := bne_eq_false_iff_eq.1 hb9
  refine sdc A jj hb9 λa A↦?_
  refine qa (hK8 _ _ (wp_cond_false (A.ev rfl) ?_))
  refine wp_skip (hK7 _ _ (wsk fun K12 hK12 => ?_))
  obtain ⟨x9, k9, hx9, hk9, p1, p2, p3, p4, p5, p6, p7, p8, p9, p10⟩ := pl_in hW (show (plS (ts.map Ty.k) (rs.map Rk.k) r t i).2 = 0 by omega)
  rw [List.length_map] at p2 p4
  obtain ⟨rk13, br14, or15, ir16, mr17, rr18, lr19, Hr20⟩ := S.R.at_ (i := r.toNat) (by omega)
  obtain rfl : x9 = rk13.k := Option.some.inj (hx9.symm.trans (ku ir16))
  rw [show rk13.k.2.length = rk13.vs.length from List.length_map _] at p9 p10
  refine wrl (sdm A λa A↦?_)
  refine sdo A (ql rfl) λa A↦?_
  refine sdo (v := .pointer (some ⟨b, 1, none⟩)) A (qb RcC_fld_73_1 rfl rfl) λa A↦?_
  refine sdo A (E.m_loadX M S.c1 RcC_is1_71 rfl) λa A↦?_
  refine sdm A λa A↦?_
  refine sdo (v := .pointer (some ⟨br14, or15 + r.toNat * 2, none⟩)) A (zj (k := r.toNat) Tryz.underlying71 (by kernel_rfl) rfl rfl (by first | rfl | omega) lr19 (by omega)) λa A↦?_
  refine sdo (v := .pointer (some ⟨br14, or15 + r.toNat * 2 + 1, none⟩)) A (qb RcC_fld_86_1 rfl rfl) λa A↦?_
  refine sdo A (jy (j := 1) M Hr20 RcC_is1_34 rfl rfl rfl) λa A↦?_
  refine sdm A λa A↦?_
  obtain ⟨tk21, btk21, otk21, itk21, mtk21, rtk21_, ltk21, Htk21⟩ := kidL rr18.v rr18.d (i := ((plS (ts.map Ty.k) (rs.map Rk.k) r t i).1).toNat) (by omega)
  refine sdo (v := .pointer (some ⟨btk21, otk21 + ((plS (ts.map Ty.k) (rs.map Rk.k) r t i).1).toNat * 11, none⟩)) A (zj (k := ((plS (ts.map Ty.k) (rs.map Rk.k) r t i).1).toNat) Tryz.underlying34 (by kernel_rfl) rfl rfl (by first | rfl | omega) ltk21 (by omega)) λa A↦?_
  refine sdo A (vt M Htk21 RcC_isS_42 rfl rfl) λa A↦?_
  have hlt9 := (Ck.lt (M.has 0 rfl) g2 rfl).2
  have hz9 := M.bel.size
  refine sct A (ef rfl rfl) (km tk21 (Dt.keep M.bel _ rtk21_) (hW.bk _ (List.mem_of_getElem? (ku ir16)) _ (List.mem_map.2 ⟨_, mtk21, rfl⟩))) ?_
  rintro _ w22 ⟨d2, rfl, ⟨hd2, ha2, ht2⟩, hbd⟩
  replace M := M.call hbd
  refine ⟨_, rfl, ?_⟩
  intro a A
  refine qfc (us := (d2.d.cells d2.ts.length)) (L' := (.obj g2 (.cells (d2.d.cells d2.ts.length).toArray 42) :: [])) A M rfl rfl (qy rfl rfl rfl (by kernel_rfl) M 0 rfl rfl rfl) 0 rfl rfl rfl ?_
  intro w23 M hK24
  replace hd2 := Dt.kept hK24 _ hd2 (Dt.at_mono (fun b9 hb9 => by rintro rfl; omega) _ ha2)
  refine sda A λa A↦?_
  refine qa (hK12 _ _ (wp_ret (hret _ _ (en2 A rfl (jk M RcC_isS_42 rfl 0 rfl (cs := [.int .i64 d2.d.k, .int .i64 d2.d.n, .bool d2.d.y.q.b1, .slice d2.d.y.o1 d2.d.y.q.t1.length d2.d.y.c1, .slice d2.d.y.o2 d2.d.y.q.q1.length d2.d.y.c2, .bool d2.d.y.q.b2, .slice d2.d.y.o3 d2.d.y.q.t2.length d2.d.y.c3, .slice d2.d.y.o4 d2.d.y.q.q2.length d2.d.y.c4, .string d2.d.s, .slice d2.d.ro d2.d.rl.length d2.d.rc, .slice d2.d.lo d2.ts.length d2.d.lc]) rfl rfl) (qe rfl) ?_))))
  exact ⟨d2, by first | (rw [show (plS (ts.map Ty.k) (rs.map Rk.k) r t i).2 = 0 by omega]; done) | (rw [show (plS (ts.map Ty.k) (rs.map Rk.k) r t i).2 = 0 by omega]; rfl), ⟨hd2, by rw [ht2, gtT_ok (show (plS (ts.map Ty.k) (rs.map Rk.k) r t i).2 = 0 by omega) hx9 (show (List.map Dt.tr _)[_]? = some tk21.tr by rw [List.getElem?_map, itk21]; rfl)], Dt.at_mono (fun b9 hb9 => Nat.le_trans hz9 hb9) _ ha2⟩, M.bel⟩
open Classical in
/-- What was made, but these pieces. -/
noncomputable def others (w0 w : World) (L : List Ck) : List Ck := (froz w w0.heap.size (w.heap.size - w0.heap.size)).filter fun c => decide (∀ d ∈ L, ∀ b, c.at_ = some b → d.at_ ≠ some b)
theorem vl {w0 w : World} {L : List Ck} : jb (others w0 w L) := fun c hc => froz_nob c (List.mem_filter.1 hc).1
theorem Mg.fill {w0 w : World} {L : List Ck} (hM : Mg w0 w L) (hnb : jb L) : Mg w0 w (others w0 w L ++ L) := by
  refine ⟨hM.bel, fun c hc => ?_, List.pairwise_append.2 ⟨(ym _ _).filter _, hM.dis, fun c hc d hd => ?_⟩⟩
  · rcases List.mem_append.1 hc with h | h
    · obtain ⟨b, o, rfl, h3, h4⟩ := vh (List.mem_filter.1 h).1
      exact ⟨h3, h4⟩
    · exact hM.all c h
  · have h5 := of_decide_eq_true (List.mem_filter.1 hc).2
    obtain ⟨b, o, rfl, h3, h4⟩ := vh (List.mem_filter.1 hc).1
    have h6 := h5 d hd b rfl
    cases d with
    | obj g' o' => exact fun e => h6 (by rw [e]; rfl)
    | row e' sz' v' n' xs' => exact h6
    | bld b' bs' => exact absurd rfl (hnb _ hd b' bs')
theorem kx {w w' : World} {L : List Ck} {t : Dt} (ht : t.rd w') (ha : t.at_ fun b => w.heap.size ≤ b ∧ ∀ d ∈ L, d.at_ ≠ some b) : Lives (others w w' L) t := fun w1 w2 h9 => by
  refine Dt.seen (p := fun b => w.heap.size ≤ b ∧ ∀ d ∈ L, d.at_ ≠ some b) (fun b i v hb hc => ?_) t ht ha
  have hlt := cell_lt hc
  have h2 : w'.heap[b]? = some (w'.heap[b]'hlt) := Array.getElem?_eq_getElem hlt
  have h3 : Ck.obj b (w'.heap[b]'hlt) ∈ others w w' L := List.mem_filter.2 ⟨qff hb.1 (by have := hb.1; simp only at *; omega) h2, decide_eq_true fun d hd b' e => by cases e; exact hb.2 d hd⟩
  have h4 := (h9.all _ h3).2
  unfold World.cell? at hc ⊢
  simp only at hc ⊢
  rw [h4, ← h2]; exact hc
/-- A row of data that a call has made, and what they stand by. -/
theorem Mg.data {w0 w w' : World} {L : List Ck} {c : Ck} (hM : Mg w0 w L) (n : Nat) (hnb : jb L) (h : Mg w w' [c]) (hc : jb [c]) : Mg w0 w' (c :: (L.take n ++ (others w w' [c] ++ L.drop n))) := by
  have h1 := hM.both (h.fill hc) hnb (xw vl hc)
  refine h1.perm ?_
  rw [List.append_assoc]
  refine List.perm_append_comm.trans ?_
  show (c :: (L ++ others w w' [c])).Perm _
  refine List.Perm.cons _ ?_
  have e : L ++ others w w' [c] = L.take n ++ (L.drop n ++ others w w' [c]) := by rw [← List.append_assoc, List.take_append_drop]
  rw [e]
  exact List.Perm.append_left _ List.perm_append_comm
section
variable {P : Program} {w0 w : World} {L : List Ck} {l : List (Nat × Value)} {dst : Option Tmp} {ty : TypeId} {pos : String} {after : Array Edge} {guard : Option (Nat × Bool)} {v : Value}
/-- A cell of a struct in a row of one's own. -/
theorem m_loadRS {α : Type} {f : α → List Value} {m : Nat} (hf : ∀ x, (f x).length = m) (hm : 0 < m) (hM : Mg w0 w L) (k : Nat) {e : TypeId} {n ca b o i j o' : Nat} {so : Option Addr} {xs : List α} {x : α} (hk : L[k]? = some (.row e m (.slice so n ca) n (qg f xs))) (hi : xs[i]? = some x) (hso : so = some ⟨b, o, none⟩) (hj : (f x)[j]? = some v) {t : TypeId} (ht : Is1 P t) {y : Operand} (hy : ev l y = some (.pointer (some ⟨b, o', none⟩))) (ho : o' = o + i * m + j) : Does P l ⟨dst, .load t y, ty, pos, after, guard⟩ w v w := by
  obtain ⟨b', o'', e1, h1⟩ := yn hf hm (rc_own (hM.has k hk)) hi
  rw [hso] at e1
  cases e1
  subst ho
  exact jc hy (ju ht (h1.2 j v hj))
end
theorem RcD_is1_26 : Is1 Tryz.prog 26 := ⟨⟨_, Tryz.underlying26, rfl⟩, by kernel_rfl⟩
theorem RcD_is1_3 : Is1 Tryz.prog 3 := ⟨⟨_, Tryz.underlying3, rfl⟩, by kernel_rfl⟩
theorem RcD_is1_30 : Is1 Tryz.prog 30 := ⟨⟨_, Tryz.underlying30, rfl⟩, by kernel_rfl⟩
theorem RcD_is1_4 : Is1 Tryz.prog 4 := ⟨⟨_, Tryz.underlying4, rfl⟩, by kernel_rfl⟩
theorem RcD_is1_71 : Is1 Tryz.prog 71 := ⟨⟨_, Tryz.underlying71, rfl⟩, by kernel_rfl⟩
theorem RcD_is1_9 : Is1 Tryz.prog 9 := ⟨⟨_, Tryz.underlying9, rfl⟩, by kernel_rfl⟩
theorem RcD_fld_33_1 : FieldAt Tryz.prog 33 1 1 := ⟨_, _, Tryz.underlying33, rfl, rfl, by kernel_rfl⟩
theorem RcD_fld_33_2 : FieldAt Tryz.prog 33 2 2 := ⟨_, _, Tryz.underlying33, rfl, rfl, by kernel_rfl⟩
theorem RcD_fld_33_4 : FieldAt Tryz.prog 33 4 4 := ⟨_, _, Tryz.underlying33, rfl, rfl, by kernel_rfl⟩
theorem RcD_fld_33_6 : FieldAt Tryz.prog 33 6 6 := ⟨_, _, Tryz.underlying33, rfl, rfl, by kernel_rfl⟩
theorem RcD_fld_73_0 : FieldAt Tryz.prog 73 0 0 := ⟨_, _, Tryz.underlying73, rfl, rfl, by kernel_rfl⟩
theorem RcD_fld_73_1 : FieldAt Tryz.prog 73 1 1 := ⟨_, _, Tryz.underlying73, rfl, rfl, by kernel_rfl⟩
theorem RcD_isS_33 : IsS Tryz.prog 33 7 := ⟨⟨_, Tryz.underlying33⟩, by kernel_rfl⟩
theorem RcD_isS_42 : IsS Tryz.prog 42 11 := ⟨⟨_, Tryz.underlying42⟩, by kernel_rfl⟩
set_option maxHeartbeats 1000000 in
theorem type_new {w0 w : World} {b tc rc : Nat} {tz ro : Option Addr} {ts : List Ty} {rs : List Rk} {Y : List Ck} (hY : jb Y) (hW : WS (ts.map Ty.k) (rs.map Rk.k)) (hsr : ∀ w1, Mg w0 w1 (.obj b (.cells #[.slice tz ts.length tc, .slice ro rs.length rc] 73) :: .row 33 7 (.slice tz ts.length tc) ts.length (qg Ty.c ts) :: .row 86 2 (.slice ro rs.length rc) rs.length (qg Rk.c rs) :: Y) → SR w1 b tz tc ts ro rc rs) (hM0 : Mg w0 w (.obj b (.cells #[.slice tz ts.length tc, .slice ro rs.length rc] 73) :: .row 33 7 (.slice tz ts.length tc) ts.length (qg Ty.c ts) :: .row 86 2 (.slice ro rs.length rc) rs.length (qg Rk.c rs) :: Y)) {u : Ty} (hU : ∀ w1, Mg w0 w1 Y → TyR w1 u) (hul : u.fs.length ≤ 1000000) (hum : u.ms.length ≤ 1000000) (hz1 : u.nm.size ≤ 281474976710656) (hz2 : u.ui.size ≤ 281474976710656) (huz : ∀ s ∈ u.fs, s.size ≤ 281474976710656) (hg : gdB ts.length u.k = true) (h0 : ¬ 0 ≤ uix (ts.map Ty.k) u.ui) (hsl : slP (ts.map Ty.k) u.par = false) (hc : cnt (ts.map Ty.k) u.par + u.fs.length ≤ 16) (hn : ts.length < 4096) : Calls Tryz.prog 8 #[.pointer (some ⟨b, 0, none⟩), .agg #[.string u.nm, .int .i64 u.par, .slice u.fo u.fs.length u.fc, .slice u.mo u.ms.length u.mc, .bool u.sl, .bool u.op, .string u.ui]] w fun e w' => ∃ (t2 : Ty) (tz' : Option Addr) (tc' : Nat), e = .returned (.tuple #[.int .i64 ((ts.length : Nat) : Int), .int .i64 0]) ∧ t2.k = u.k ∧ Mg w0 w' (.obj b (.cells #[.slice tz' ((ts ++ [t2]).length) tc', .slice ro rs.length rc] 73) :: .row 33 7 (.slice tz' ((ts ++ [t2]).length) tc') ((ts ++ [t2]).length) (qg Ty.c (ts ++ [t2])) :: .row 86 2 (.slice ro rs.length rc) rs.length (qg Rk.c rs) :: .row 9 1 (.slice t2.fo t2.fs.length t2.fc) t2.fs.length (E.strC t2.fs) :: .row 4 1 (.slice t2.mo t2.ms.length t2.mc) t2.ms.length (E.boolC t2.ms) :: Y) := by
 have hkl := hW.kl
 have hrl := hW.rl
 rw [List.length_map] at hkl hrl
 obtain ⟨hg1, hg2, hg3, hg4⟩ := gd_t hg
 rw [show u.k.par = u.par from rfl] at hg3 hg4
 have M : Mg w0 w (.obj b (.cells #[.slice tz ts.length tc, .slice ro rs.length rc] 73) :: .row 33 7 (.slice tz ts.length tc) ts.length (qg Ty.c ts) :: .row 86 2 (.slice ro rs.length rc) rs.length (qg Rk.c rs) :: Y) := hM0
 refine qm (l := [(0, .pointer (some ⟨b, 0, none⟩)), (1, .agg #[.string u.nm, .int .i64 u.par, .slice u.fo u.fs.length u.fc, .slice u.mo u.ms.length u.mc, .bool u.sl, .bool u.op, .string u.ui])]) Tryz.func8 rfl Tryz.ntmps8 rfl rfl ?_
 intro Q hret hnorm hP a A
 refine wsk fun K1 hK1 => wrl (zp (vs := [.string u.nm, .int .i64 u.par, .slice u.fo u.fs.length u.fc, .slice u.mo u.ms.length u.mc, .bool u.sl, .bool u.op, .string u.ui]) (t := 33) A M rfl rfl rfl pg (zh rfl rfl) (by decide) ?_)
 intro g2 w3 M a A
 iterate 2 refine sda A λa A↦?_
 refine qa (hK1 _ _ (wsk fun K4 hK4 => wsk fun K5 hK5 => wrl (sdm A λa A↦?_)))
 refine sdo (v := .bool false) A (qh rfl rfl (fun w => by kernel_rfl)) λa A↦?_
 iterate 2 refine sdm A λa A↦?_
 refine sdo A (zu M RcD_isS_33 rfl 0 rfl (cs := [.string u.nm, .int .i64 u.par, .slice u.fo u.fs.length u.fc, .slice u.mo u.ms.length u.mc, .bool u.sl, .bool u.op, .string u.ui]) rfl rfl) λa A↦?_
 refine gcl A M (ef rfl rfl) (yt (hsr _ ((show Mg _ _ (.obj b (.cells #[.slice tz ts.length tc, .slice ro rs.length rc] 73) :: .row 33 7 (.slice tz ts.length tc) ts.length (qg Ty.c ts) :: .row 86 2 (.slice ro rs.length rc) rs.length (qg Rk.c rs) :: Y) from (M.dropn 1)))) hW (hU _ (M.dropn 4)) hul huz hg) fun w7 hb6 M a A => ?_
 refine sdo (v := .bool false) A (zv rfl ji) λa A↦?_
 refine sdk (v := .bool false) A λa A↦?_
 refine qa (hK5 _ _ (wp_cond_false (A.ev rfl) ?_))
 refine wp_skip (hK4 _ _ (wsk fun K8 hK8 => wsk fun K9 hK9 => wrl (sdm A λa A↦?_)))
 refine sdo (v := .pointer (some ⟨g2, 6, none⟩)) A (qb RcD_fld_33_6 rfl rfl) λa A↦?_
 refine sdo A (qj M RcD_is1_9 rfl 0 rfl rfl) λa A↦?_
 refine gcl A M (ef rfl rfl) (yv (hsr _ ((show Mg _ _ (.obj b (.cells #[.slice tz ts.length tc, .slice ro rs.length rc] 73) :: .row 33 7 (.slice tz ts.length tc) ts.length (qg Ty.c ts) :: .row 86 2 (.slice ro rs.length rc) rs.length (qg Rk.c rs) :: Y) from (M.dropn 1)))) hW) fun w11 hb10 M a A => ?_
 refine sda A λa A↦?_
 refine qa (hK9 _ _ (wsk fun K12 hK12 => wrl (sdm A λa A↦?_)))
 refine sdo (v := .bool false) A (qh rfl rfl (fun w => (zt w).trans (by rw [show (decide (0 ≤ uix (ts.map Ty.k) u.ui)) = false from (decide_eq_false h0)]))) λa A↦?_
 refine qa (hK12 _ _ (wp_cond_false (A.ev rfl) ?_))
 refine wp_skip (hK8 _ _ (wsk fun K13 hK13 => wp_block (wsk fun K14 hK14 => jm (S := fun w1 => Mg w0 w1 (.obj g2 (.cells #[.string u.nm, .int .i64 u.par, .slice u.fo u.fs.length u.fc, .slice u.mo u.ms.length u.mc, .bool u.sl, .bool u.op, .string u.ui] 33) :: .obj b (.cells #[.slice tz ts.length tc, .slice ro rs.length rc] 73) :: .row 33 7 (.slice tz ts.length tc) ts.length (qg Ty.c ts) :: [])) (by kernel_rfl) ?_)))
 replace M := M.drew
 refine qf (v := .pointer (some ⟨g2, 1, none⟩)) A 0 rfl rfl rfl rfl hP (M.sub (cc (cc (cc (cn (List.nil_sublist _)))))) (fun w1 M => qb RcD_fld_33_1 rfl rfl) λa A↦?_
 refine qf A 1 rfl rfl rfl rfl hP (M.sub (cc (cc (cc (cn (List.nil_sublist _)))))) (fun w1 M => qj M RcD_is1_3 rfl 0 rfl rfl) λa A↦?_
 rcases tf ((u.par != -1)) with hb15 | hb15
 ·
  have hb15' := bne_iff_ne.1 hb15
  refine qf (v := .bool true) A 2 rfl rfl rfl rfl hP (M.sub (cc (cc (cc (cn (List.nil_sublist _)))))) (fun w1 M => qh rfl rfl (fun w => (jj w).trans (by rw [hb15]))) λa A↦?_
  refine qf A 3 rfl rfl rfl rfl hP (M.sub (cc (cc (cc (cn (List.nil_sublist _)))))) (fun w1 M => qt rfl) λa A↦?_
  refine qf A 4 rfl rfl rfl rfl hP (M.sub (cc (cc (cc (cn (List.nil_sublist _)))))) (fun w1 M => qt rfl) λa A↦?_
  refine qf A 5 rfl rfl rfl rfl hP (M.sub (cc (cc (cc (cn (List.nil_sublist _)))))) (fun w1 M => ql rfl) λa A↦?_
  refine qf (v := .pointer (some ⟨b, 0, none⟩)) A 6 rfl rfl rfl rfl hP (M.sub (cc (cc (cc (cn (List.nil_sublist _)))))) (fun w1 M => qb RcD_fld_73_0 rfl rfl) λa A↦?_
  refine qf A 7 rfl rfl rfl rfl hP (M.sub (cc (cc (cc (cn (List.nil_sublist _)))))) (fun w1 M => qj M RcD_is1_26 rfl 1 rfl rfl) λa A↦?_
  refine qf (v := .pointer (some ⟨g2, 1, none⟩)) A 8 rfl rfl rfl rfl hP (M.sub (cc (cc (cc (cn (List.nil_sublist _)))))) (fun w1 M => qb RcD_fld_33_1 rfl rfl) λa A↦?_
  refine qf A 9 rfl rfl rfl rfl hP (M.sub (cc (cc (cc (cn (List.nil_sublist _)))))) (fun w1 M => qj M RcD_is1_3 rfl 0 rfl rfl) λa A↦?_
  obtain ⟨ty16, bt17, ot18, it19, mt20, rt21, lt22, Ht23⟩ := ((hsr _ ((show Mg _ _ (.obj b (.cells #[.slice tz ts.length tc, .slice ro rs.length rc] 73) :: .row 33 7 (.slice tz ts.length tc) ts.length (qg Ty.c ts) :: .row 86 2 (.slice ro rs.length rc) rs.length (qg Rk.c rs) :: Y) from (M.dropn 1))))).T.at_ (i := (u.par).toNat) (by omega)
  refine qf (v := .pointer (some ⟨bt17, ot18 + (u.par).toNat * 7, none⟩)) A 10 rfl rfl rfl rfl hP (M.sub (cc (cc (cc (cn (List.nil_sublist _)))))) (fun w1 M => zj (k := (u.par).toNat) Tryz.underlying26 (by kernel_rfl) rfl rfl (by first | rfl | omega) lt22 (by omega)) λa A↦?_
  refine qf (v := .pointer (some ⟨bt17, ot18 + (u.par).toNat * 7 + 4, none⟩)) A 11 rfl rfl rfl rfl hP (M.sub (cc (cc (cc (cn (List.nil_sublist _)))))) (fun w1 M => qb RcD_fld_33_4 rfl rfl) λa A↦?_
  refine qf A 12 rfl rfl rfl rfl hP (M.sub (cc (cc (cc (cn (List.nil_sublist _)))))) (fun w1 M => m_loadRS (j := 4) ty_len (by decide) M 2 rfl it19 lt22 rfl RcD_is1_4 rfl (by omega)) λa A↦?_
  refine qf (v := .bool ty16.sl) A 13 rfl rfl rfl rfl hP (M.sub (cc (cc (cc (cn (List.nil_sublist _)))))) (fun w1 M => zr rfl rfl rfl rfl) λa A↦?_
  refine qf A 14 rfl rfl rfl rfl hP (M.sub (cc (cc (cc (cn (List.nil_sublist _)))))) (fun w1 M => zd rfl) λa A↦?_
  refine zi (by kernel_rfl) ?_
  refine hK14 _ _ ?_
  refine wp_cond_split (t := ty16.sl) (A.ev rfl) (fun hc24 => ?_) (fun hc24 => ?_)
  ·
   rw [uy (show 0 ≤ u.par by omega) (jg it19)] at hsl
   rw [show ty16.sl = false from hsl] at hc24
   cases hc24
  ·
   refine wsk fun K25 hK25 => jm (S := fun w1 => Mg w0 w1 (.obj g2 (.cells #[.string u.nm, .int .i64 u.par, .slice u.fo u.fs.length u.fc, .slice u.mo u.ms.length u.mc, .bool u.sl, .bool u.op, .string u.ui] 33) :: .obj b (.cells #[.slice tz ts.length tc, .slice ro rs.length rc] 73) :: [])) (by kernel_rfl) ?_
   replace M := M.drew
   refine qf A 0 rfl rfl rfl rfl hP (M.sub (cc (cc (cn (cn (List.nil_sublist _)))))) (fun w1 M => qt rfl) λa A↦?_
   refine qf (v := .pointer (some ⟨g2, 1, none⟩)) A 1 rfl rfl rfl rfl hP (M.sub (cc (cc (cn (cn (List.nil_sublist _)))))) (fun w1 M => qb RcD_fld_33_1 rfl rfl) λa A↦?_
   refine qf A 2 rfl rfl rfl rfl hP (M.sub (cc (cc (cn (cn (List.nil_sublist _)))))) (fun w1 M => qj M RcD_is1_3 rfl 0 rfl rfl) λa A↦?_
   refine qf (v := .pointer (some ⟨g2, 2, none⟩)) A 4 rfl rfl rfl rfl hP (M.sub (cc (cc (cn (cn (List.nil_sublist _)))))) (fun w1 M => qb RcD_fld_33_2 rfl rfl) λa A↦?_
   refine qf A 5 rfl rfl rfl rfl hP (M.sub (cc (cc (cn (cn (List.nil_sublist _)))))) (fun w1 M => qj M RcD_is1_30 rfl 0 rfl rfl) λa A↦?_
   refine qf (v := .int .i64 (((u.fs.length : Nat) : Int))) A 6 rfl rfl rfl rfl hP (M.sub (cc (cc (cn (cn (List.nil_sublist _)))))) (fun w1 M => qr Tryz.underlying30 rfl) λa A↦?_
   refine qs (by kernel_rfl) (zl A 3 rfl rfl rfl rfl (qx rfl rfl (fun w => by kernel_rfl)) (xk (hsr _ ((show Mg _ _ (.obj b (.cells #[.slice tz ts.length tc, .slice ro rs.length rc] 73) :: .row 33 7 (.slice tz ts.length tc) ts.length (qg Ty.c ts) :: .row 86 2 (.slice ro rs.length rc) rs.length (qg Rk.c rs) :: Y) from (M.dropn 1)))) hW (by omega) (by omega)) ?_)
   rintro _ w27 ⟨rfl, hb26⟩
   replace M := M.call hb26
   refine ⟨_, rfl, (M.sub (cc (cc (cn (cn (List.nil_sublist _)))))), ?_⟩
   intro a A
   refine qf (v := .int .i64 (((cnt (ts.map Ty.k) u.par + u.fs.length : Nat) : Int))) A 7 rfl rfl rfl rfl hP (M.sub (cc (cc (cn (cn (List.nil_sublist _)))))) (fun w1 M => qh rfl rfl (fun w => (jf (je (by omega) (by omega)) w).trans (by rw [show (((cnt (ts.map Ty.k) u.par : Nat) : Int) + ((u.fs.length : Nat) : Int) : Int) = ((cnt (ts.map Ty.k) u.par + u.fs.length : Nat) : Int) from by omega]))) λa A↦?_
   refine qf (v := .bool false) A 8 rfl rfl rfl rfl hP (M.sub (cc (cc (cn (cn (List.nil_sublist _)))))) (fun w1 M => qh rfl rfl (fun w => (xf w).trans (by rw [show (decide (16 < ((cnt (ts.map Ty.k) u.par + u.fs.length : Nat) : Int))) = false from (decide_eq_false (by omega))]))) λa A↦?_
   refine qf A 9 rfl rfl rfl rfl hP (M.sub (cc (cc (cn (cn (List.nil_sublist _)))))) (fun w1 M => qt rfl) λa A↦?_
   refine qf A 10 rfl rfl rfl rfl hP (M.sub (cc (cc (cn (cn (List.nil_sublist _)))))) (fun w1 M => qt rfl) λa A↦?_
   refine qf A 11 rfl rfl rfl rfl hP (M.sub (cc (cc (cn (cn (List.nil_sublist _)))))) (fun w1 M => ql rfl) λa A↦?_
   refine qf (v := .pointer (some ⟨b, 0, none⟩)) A 12 rfl rfl rfl rfl hP (M.sub (cc (cc (cn (cn (List.nil_sublist _)))))) (fun w1 M => qb RcD_fld_73_0 rfl rfl) λa A↦?_
   refine qf A 13 rfl rfl rfl rfl hP (M.sub (cc (cc (cn (cn (List.nil_sublist _)))))) (fun w1 M => qj M RcD_is1_26 rfl 1 rfl rfl) λa A↦?_
   refine qf (v := .int .i64 (((ts.length : Nat) : Int))) A 14 rfl rfl rfl rfl hP (M.sub (cc (cc (cn (cn (List.nil_sublist _)))))) (fun w1 M => qr Tryz.underlying26 rfl) λa A↦?_
   refine qf (v := .bool false) A 15 rfl rfl rfl rfl hP (M.sub (cc (cc (cn (cn (List.nil_sublist _)))))) (fun w1 M => qh rfl rfl (fun w => (zt w).trans (by rw [show (decide (4096 ≤ ((ts.length : Nat) : Int))) = false from (decide_eq_false (by omega))]))) λa A↦?_
   refine qf (v := .bool false) A 16 rfl rfl rfl rfl hP (M.sub (cc (cc (cn (cn (List.nil_sublist _)))))) (fun w1 M => zr rfl rfl rfl rfl) λa A↦?_
   refine qf A 17 rfl rfl rfl rfl hP (M.sub (cc (cc (cn (cn (List.nil_sublist _)))))) (fun w1 M => zd rfl) λa A↦?_
   refine zi (by kernel_rfl) ?_
   refine hK25 _ _ (wp_cond_false (A.ev rfl) ?_)
   refine wp_skip (hK13 _ _ (wsk fun K28 hK28 => jm (S := fun w1 => Mg w0 w1 ([])) (by kernel_rfl) ?_))
   replace M := M.drew
   refine qf A 0 rfl rfl rfl rfl hP (M.sub (cn (cn (cn (cn (List.nil_sublist _)))))) (fun w1 M => qt rfl) λa A↦?_
   refine qf A 1 rfl rfl rfl rfl hP (M.sub (cn (cn (cn (cn (List.nil_sublist _)))))) (fun w1 M => qt rfl) λa A↦?_
   refine qf A 2 rfl rfl rfl rfl hP (M.sub (cn (cn (cn (cn (List.nil_sublist _)))))) (fun w1 M => ql rfl) λa A↦?_
   refine qf (v := .pointer (some ⟨b, 0, none⟩)) A 3 rfl rfl rfl rfl hP (M.sub (cn (cn (cn (cn (List.nil_sublist _)))))) (fun w1 M => qb RcD_fld_73_0 rfl rfl) λa A↦?_
   refine xd (rs := [4, 5]) (by kernel_rfl) (by simp) ⟨?_, ?_, trivial⟩
   ·
    refine xh A 4 rfl rfl rfl rfl (qj M RcD_is1_26 rfl 1 rfl rfl) (M.sub (cn (cn (cn (cn (List.nil_sublist _)))))) λa A↦?_
    refine qs (by kernel_rfl) (xh A 5 rfl rfl rfl rfl (zu M RcD_isS_33 rfl 0 rfl (cs := [.string u.nm, .int .i64 u.par, .slice u.fo u.fs.length u.fc, .slice u.mo u.ms.length u.mc, .bool u.sl, .bool u.op, .string u.ui]) rfl rfl) (M.sub (cn (cn (cn (cn (List.nil_sublist _)))))) ?_)
    intro a A
    refine qs (by kernel_rfl) (zl A 6 rfl rfl rfl rfl (qx rfl rfl (fun w => by kernel_rfl)) (jo (hU _ (M.dropn 4)) hul hum hz1 hz2 huz) ?_)
    rintro _ w30 ⟨t2, rfl, hk2, hM29⟩
    replace M : Mg w0 w30 (.row 9 1 (.slice t2.fo t2.fs.length t2.fc) t2.fs.length (E.strC t2.fs) :: .row 4 1 (.slice t2.mo t2.ms.length t2.mc) t2.ms.length (E.boolC t2.ms) :: .obj g2 (.cells #[.string u.nm, .int .i64 u.par, .slice u.fo u.fs.length u.fc, .slice u.mo u.ms.length u.mc, .bool u.sl, .bool u.op, .string u.ui] 33) :: .obj b (.cells #[.slice tz ts.length tc, .slice ro rs.length rc] 73) :: .row 33 7 (.slice tz ts.length tc) ts.length (qg Ty.c ts) :: .row 86 2 (.slice ro rs.length rc) rs.length (qg Rk.c rs) :: Y) := (M.both hM29 (qi (by simp) (qi (by simp) (qi (by simp) (qi (by simp) hY)))) (qi (by simp) (qi (by simp) (qk qp))))
    refine ⟨_, rfl, (M.sub (cn (cn (cn (cn (cn (cn (List.nil_sublist _)))))))), ?_⟩
    intro a A
    refine qs (by kernel_rfl) (vr (e := 33) (sz := 7) (m := 1) (vs := qg Ty.c [t2]) A M 7 rfl rfl rfl rfl (qz rfl (by kernel_rfl)) rfl rfl (.inl (by decide)) ?_)
    intro g31 w32 M
    refine ⟨(M.sub (cn (cn (cn (cn (cn (cn (cn (List.nil_sublist _))))))))), ?_⟩
    intro a A
    refine qs (by kernel_rfl) (js (e := 33) (sz := 7) (k := 5) (q := ts.length) (m := 1) (xs := qg Ty.c ts) (news := qg Ty.c [t2]) (L' := fun v33 => (.row 33 7 (.slice (some ⟨g31, 0, none⟩) 1 1) 1 (qg Ty.c [t2]) :: .row 9 1 (.slice t2.fo t2.fs.length t2.fc) t2.fs.length (E.strC t2.fs) :: .row 4 1 (.slice t2.mo t2.ms.length t2.mc) t2.ms.length (E.boolC t2.ms) :: .obj g2 (.cells #[.string u.nm, .int .i64 u.par, .slice u.fo u.fs.length u.fc, .slice u.mo u.ms.length u.mc, .bool u.sl, .bool u.op, .string u.ui] 33) :: .obj b (.cells #[.slice tz ts.length tc, .slice ro rs.length rc] 73) :: .row 33 7 (v33) (ts.length + 1) (qg Ty.c ts ++ qg Ty.c [t2]) :: .row 86 2 (.slice ro rs.length rc) rs.length (qg Rk.c rs) :: Y)) A 8 rfl rfl rfl rfl (jq (z := .agg #[.string (⟨#[]⟩), .int .i64 0, .slice none 0 0, .slice none 0 0, .bool false, .bool false, .string (⟨#[]⟩)]) (sz := 7) (by_ := 96) Tryz.underlying26 (by kernel_rfl) rfl rfl rfl M 5 rfl rfl rfl rfl (rc_own (M.has 0 rfl)) (vv _) (by omega)) (fun _ => rfl) ?_)
    intro v33 w34 M
    replace M : Mg w0 w34 (.row 33 7 (.slice (some ⟨g31, 0, none⟩) 1 1) 1 (qg Ty.c [t2]) :: .row 9 1 (.slice t2.fo t2.fs.length t2.fc) t2.fs.length (E.strC t2.fs) :: .row 4 1 (.slice t2.mo t2.ms.length t2.mc) t2.ms.length (E.boolC t2.ms) :: .obj g2 (.cells #[.string u.nm, .int .i64 u.par, .slice u.fo u.fs.length u.fc, .slice u.mo u.ms.length u.mc, .bool u.sl, .bool u.op, .string u.ui] 33) :: .obj b (.cells #[.slice tz ts.length tc, .slice ro rs.length rc] 73) :: .row 33 7 (v33) ((ts ++ [t2]).length) (qg Ty.c (ts ++ [t2])) :: .row 86 2 (.slice ro rs.length rc) rs.length (qg Rk.c rs) :: Y) := by
     have h9 := M
     rw [← zw] at h9
     rw [List.length_append]
     exact h9
    obtain ⟨so35, ca36, rfl⟩ := zn (M.has 5 rfl)
    have hln : (ts ++ [t2]).length = ts.length + 1 := by rw [List.length_append]; rfl
    refine ⟨(M.sub (cn (cn (cn (cn (cn (cn (cn (List.nil_sublist _))))))))), ?_⟩
    intro a A
    refine qf A 9 rfl rfl rfl rfl hP (M.sub (cn (cn (cn (cn (cn (cn (cn (List.nil_sublist _))))))))) (fun w1 M => ql rfl) λa A↦?_
    refine qf (v := .pointer (some ⟨b, 0, none⟩)) A 10 rfl rfl rfl rfl hP (M.sub (cn (cn (cn (cn (cn (cn (cn (List.nil_sublist _))))))))) (fun w1 M => qb RcD_fld_73_0 rfl rfl) λa A↦?_
    refine qs (by kernel_rfl) (jx (us := [.slice so35 ((ts ++ [t2]).length) ca36, .slice ro rs.length rc]) (L' := (.row 33 7 (.slice (some ⟨g31, 0, none⟩) 1 1) 1 (qg Ty.c [t2]) :: .row 9 1 (.slice t2.fo t2.fs.length t2.fc) t2.fs.length (E.strC t2.fs) :: .row 4 1 (.slice t2.mo t2.ms.length t2.mc) t2.ms.length (E.boolC t2.ms) :: .obj g2 (.cells #[.string u.nm, .int .i64 u.par, .slice u.fo u.fs.length u.fc, .slice u.mo u.ms.length u.mc, .bool u.sl, .bool u.op, .string u.ui] 33) :: .obj b (.cells #[.slice so35 ((ts ++ [t2]).length) ca36, .slice ro rs.length rc] 73) :: .row 33 7 (.slice so35 ((ts ++ [t2]).length) ca36) ((ts ++ [t2]).length) (qg Ty.c (ts ++ [t2])) :: .row 86 2 (.slice ro rs.length rc) rs.length (qg Rk.c rs) :: Y)) A M 11 rfl rfl rfl (qy rfl rfl rfl (by kernel_rfl) M 4 rfl rfl rfl) 4 rfl rfl rfl ?_)
    intro w37 M
    refine ⟨(M.sub (cn (cn (cn (cn (cn (cn (cn (List.nil_sublist _))))))))), ?_⟩
    refine zi (by kernel_rfl) ?_
    refine hK28 _ _ (wsk fun K38 hK38 => wrl (sdm A λa A↦?_))
    refine sdo A (ql rfl) λa A↦?_
    refine sdo (v := .pointer (some ⟨b, 0, none⟩)) A (qb RcD_fld_73_0 rfl rfl) λa A↦?_
    refine sdo A (qj M RcD_is1_26 rfl 4 rfl rfl) λa A↦?_
    refine sdo A (qr Tryz.underlying26 rfl) λa A↦?_
    refine sdo (v := .int .i64 ((((ts ++ [t2]).length - 1 : Nat) : Int))) A (qh rfl rfl (fun w => (jw (je (by omega) (by omega)) w).trans (by rw [show ((((ts ++ [t2]).length : Nat) : Int) - 1 : Int) = (((ts ++ [t2]).length - 1 : Nat) : Int) from by omega]))) λa A↦?_
    iterate 2 refine sda A λa A↦?_
    refine qa (hK38 _ _ (wp_ret (hret _ _ (en2 A rfl (qe rfl) (qe rfl) ?_))))
    replace M : Mg w0 w37 (.row 4 1 (.slice t2.mo t2.ms.length t2.mc) t2.ms.length (E.boolC t2.ms) :: .row 33 7 (.slice (some ⟨g31, 0, none⟩) 1 1) 1 (qg Ty.c [t2]) :: .row 9 1 (.slice t2.fo t2.fs.length t2.fc) t2.fs.length (E.strC t2.fs) :: .obj g2 (.cells #[.string u.nm, .int .i64 u.par, .slice u.fo u.fs.length u.fc, .slice u.mo u.ms.length u.mc, .bool u.sl, .bool u.op, .string u.ui] 33) :: .obj b (.cells #[.slice so35 ((ts ++ [t2]).length) ca36, .slice ro rs.length rc] 73) :: .row 33 7 (.slice so35 ((ts ++ [t2]).length) ca36) ((ts ++ [t2]).length) (qg Ty.c (ts ++ [t2])) :: .row 86 2 (.slice ro rs.length rc) rs.length (qg Rk.c rs) :: Y) := M.bring 2 rfl rfl
    replace M : Mg w0 w37 (.row 9 1 (.slice t2.fo t2.fs.length t2.fc) t2.fs.length (E.strC t2.fs) :: .row 4 1 (.slice t2.mo t2.ms.length t2.mc) t2.ms.length (E.boolC t2.ms) :: .row 33 7 (.slice (some ⟨g31, 0, none⟩) 1 1) 1 (qg Ty.c [t2]) :: .obj g2 (.cells #[.string u.nm, .int .i64 u.par, .slice u.fo u.fs.length u.fc, .slice u.mo u.ms.length u.mc, .bool u.sl, .bool u.op, .string u.ui] 33) :: .obj b (.cells #[.slice so35 ((ts ++ [t2]).length) ca36, .slice ro rs.length rc] 73) :: .row 33 7 (.slice so35 ((ts ++ [t2]).length) ca36) ((ts ++ [t2]).length) (qg Ty.c (ts ++ [t2])) :: .row 86 2 (.slice ro rs.length rc) rs.length (qg Rk.c rs) :: Y) := M.bring 2 rfl rfl
    replace M : Mg w0 w37 (.row 86 2 (.slice ro rs.length rc) rs.length (qg Rk.c rs) :: .row 9 1 (.slice t2.fo t2.fs.length t2.fc) t2.fs.length (E.strC t2.fs) :: .row 4 1 (.slice t2.mo t2.ms.length t2.mc) t2.ms.length (E.boolC t2.ms) :: .row 33 7 (.slice (some ⟨g31, 0, none⟩) 1 1) 1 (qg Ty.c [t2]) :: .obj g2 (.cells #[.string u.nm, .int .i64 u.par, .slice u.fo u.fs.length u.fc, .slice u.mo u.ms.length u.mc, .bool u.sl, .bool u.op, .string u.ui] 33) :: .obj b (.cells #[.slice so35 ((ts ++ [t2]).length) ca36, .slice ro rs.length rc] 73) :: .row 33 7 (.slice so35 ((ts ++ [t2]).length) ca36) ((ts ++ [t2]).length) (qg Ty.c (ts ++ [t2])) :: Y) := M.bring 6 rfl rfl
    replace M : Mg w0 w37 (.row 33 7 (.slice so35 ((ts ++ [t2]).length) ca36) ((ts ++ [t2]).length) (qg Ty.c (ts ++ [t2])) :: .row 86 2 (.slice ro rs.length rc) rs.length (qg Rk.c rs) :: .row 9 1 (.slice t2.fo t2.fs.length t2.fc) t2.fs.length (E.strC t2.fs) :: .row 4 1 (.slice t2.mo t2.ms.length t2.mc) t2.ms.length (E.boolC t2.ms) :: .row 33 7 (.slice (some ⟨g31, 0, none⟩) 1 1) 1 (qg Ty.c [t2]) :: .obj g2 (.cells #[.string u.nm, .int .i64 u.par, .slice u.fo u.fs.length u.fc, .slice u.mo u.ms.length u.mc, .bool u.sl, .bool u.op, .string u.ui] 33) :: .obj b (.cells #[.slice so35 ((ts ++ [t2]).length) ca36, .slice ro rs.length rc] 73) :: Y) := M.bring 6 rfl rfl
    replace M : Mg w0 w37 (.obj b (.cells #[.slice so35 ((ts ++ [t2]).length) ca36, .slice ro rs.length rc] 73) :: .row 33 7 (.slice so35 ((ts ++ [t2]).length) ca36) ((ts ++ [t2]).length) (qg Ty.c (ts ++ [t2])) :: .row 86 2 (.slice ro rs.length rc) rs.length (qg Rk.c rs) :: .row 9 1 (.slice t2.fo t2.fs.length t2.fc) t2.fs.length (E.strC t2.fs) :: .row 4 1 (.slice t2.mo t2.ms.length t2.mc) t2.ms.length (E.boolC t2.ms) :: .row 33 7 (.slice (some ⟨g31, 0, none⟩) 1 1) 1 (qg Ty.c [t2]) :: .obj g2 (.cells #[.string u.nm, .int .i64 u.par, .slice u.fo u.fs.length u.fc, .slice u.mo u.ms.length u.mc, .bool u.sl, .bool u.op, .string u.ui] 33) :: Y) := M.bring 6 rfl rfl
    replace M : Mg w0 w37 (.obj b (.cells #[.slice so35 ((ts ++ [t2]).length) ca36, .slice ro rs.length rc] 73) :: .row 33 7 (.slice so35 ((ts ++ [t2]).length) ca36) ((ts ++ [t2]).length) (qg Ty.c (ts ++ [t2])) :: .row 86 2 (.slice ro rs.length rc) rs.length (qg Rk.c rs) :: .row 9 1 (.slice t2.fo t2.fs.length t2.fc) t2.fs.length (E.strC t2.fs) :: .row 4 1 (.slice t2.mo t2.ms.length t2.mc) t2.ms.length (E.boolC t2.ms) :: Y) := by
     have h9 := M.sub (cc (cc (cc (cc (cc (cn (cn (.refl _))))))))
     exact h9
    exact ⟨t2, so35, ca36, by rw [show (ts ++ [t2]).length - 1 = ts.length by omega], hk2, M⟩
   ·
    refine xh A 5 rfl rfl rfl rfl (zu M RcD_isS_33 rfl 0 rfl (cs := [.string u.nm, .int .i64 u.par, .slice u.fo u.fs.length u.fc, .slice u.mo u.ms.length u.mc, .bool u.sl, .bool u.op, .string u.ui]) rfl rfl) (M.sub (cn (cn (cn (cn (List.nil_sublist _)))))) λa A↦?_
    refine xd (rs := [4, 6]) (by kernel_rfl) (by simp) ⟨?_, ?_, trivial⟩
    ·
     refine xh A 4 rfl rfl rfl rfl (qj M RcD_is1_26 rfl 1 rfl rfl) (M.sub (cn (cn (cn (cn (List.nil_sublist _)))))) λa A↦?_
     refine qs (by kernel_rfl) (zl A 6 rfl rfl rfl rfl (qx rfl rfl (fun w => by kernel_rfl)) (jo (hU _ (M.dropn 4)) hul hum hz1 hz2 huz) ?_)
     rintro _ w40 ⟨t2, rfl, hk2, hM39⟩
     replace M : Mg w0 w40 (.row 9 1 (.slice t2.fo t2.fs.length t2.fc) t2.fs.length (E.strC t2.fs) :: .row 4 1 (.slice t2.mo t2.ms.length t2.mc) t2.ms.length (E.boolC t2.ms) :: .obj g2 (.cells #[.string u.nm, .int .i64 u.par, .slice u.fo u.fs.length u.fc, .slice u.mo u.ms.length u.mc, .bool u.sl, .bool u.op, .string u.ui] 33) :: .obj b (.cells #[.slice tz ts.length tc, .slice ro rs.length rc] 73) :: .row 33 7 (.slice tz ts.length tc) ts.length (qg Ty.c ts) :: .row 86 2 (.slice ro rs.length rc) rs.length (qg Rk.c rs) :: Y) := (M.both hM39 (qi (by simp) (qi (by simp) (qi (by simp) (qi (by simp) hY)))) (qi (by simp) (qi (by simp) (qk qp))))
     refine ⟨_, rfl, (M.sub (cn (cn (cn (cn (cn (cn (List.nil_sublist _)))))))), ?_⟩
     intro a A
     refine qs (by kernel_rfl) (vr (e := 33) (sz := 7) (m := 1) (vs := qg Ty.c [t2]) A M 7 rfl rfl rfl rfl (qz rfl (by kernel_rfl)) rfl rfl (.inl (by decide)) ?_)
     intro g41 w42 M
     refine ⟨(M.sub (cn (cn (cn (cn (cn (cn (cn (List.nil_sublist _))))))))), ?_⟩
     intro a A
     refine qs (by kernel_rfl) (js (e := 33) (sz := 7) (k := 5) (q := ts.length) (m := 1) (xs := qg Ty.c ts) (news := qg Ty.c [t2]) (L' := fun v43 => (.row 33 7 (.slice (some ⟨g41, 0, none⟩) 1 1) 1 (qg Ty.c [t2]) :: .row 9 1 (.slice t2.fo t2.fs.length t2.fc) t2.fs.length (E.strC t2.fs) :: .row 4 1 (.slice t2.mo t2.ms.length t2.mc) t2.ms.length (E.boolC t2.ms) :: .obj g2 (.cells #[.string u.nm, .int .i64 u.par, .slice u.fo u.fs.length u.fc, .slice u.mo u.ms.length u.mc, .bool u.sl, .bool u.op, .string u.ui] 33) :: .obj b (.cells #[.slice tz ts.length tc, .slice ro rs.length rc] 73) :: .row 33 7 (v43) (ts.length + 1) (qg Ty.c ts ++ qg Ty.c [t2]) :: .row 86 2 (.slice ro rs.length rc) rs.length (qg Rk.c rs) :: Y)) A 8 rfl rfl rfl rfl (jq (z := .agg #[.string (⟨#[]⟩), .int .i64 0, .slice none 0 0, .slice none 0 0, .bool false, .bool false, .string (⟨#[]⟩)]) (sz := 7) (by_ := 96) Tryz.underlying26 (by kernel_rfl) rfl rfl rfl M 5 rfl rfl rfl rfl (rc_own (M.has 0 rfl)) (vv _) (by omega)) (fun _ => rfl) ?_)
     intro v43 w44 M
     replace M : Mg w0 w44 (.row 33 7 (.slice (some ⟨g41, 0, none⟩) 1 1) 1 (qg Ty.c [t2]) :: .row 9 1 (.slice t2.fo t2.fs.length t2.fc) t2.fs.length (E.strC t2.fs) :: .row 4 1 (.slice t2.mo t2.ms.length t2.mc) t2.ms.length (E.boolC t2.ms) :: .obj g2 (.cells #[.string u.nm, .int .i64 u.par, .slice u.fo u.fs.length u.fc, .slice u.mo u.ms.length u.mc, .bool u.sl, .bool u.op, .string u.ui] 33) :: .obj b (.cells #[.slice tz ts.length tc, .slice ro rs.length rc] 73) :: .row 33 7 (v43) ((ts ++ [t2]).length) (qg Ty.c (ts ++ [t2])) :: .row 86 2 (.slice ro rs.length rc) rs.length (qg Rk.c rs) :: Y) := by
      have h9 := M
      rw [← zw] at h9
      rw [List.length_append]
      exact h9
     obtain ⟨so45, ca46, rfl⟩ := zn (M.has 5 rfl)
     have hln : (ts ++ [t2]).length = ts.length + 1 := by rw [List.length_append]; rfl
     refine ⟨(M.sub (cn (cn (cn (cn (cn (cn (cn (List.nil_sublist _))))))))), ?_⟩
     intro a A
     refine qf A 9 rfl rfl rfl rfl hP (M.sub (cn (cn (cn (cn (cn (cn (cn (List.nil_sublist _))))))))) (fun w1 M => ql rfl) λa A↦?_
     refine qf (v := .pointer (some ⟨b, 0, none⟩)) A 10 rfl rfl rfl rfl hP (M.sub (cn (cn (cn (cn (cn (cn (cn (List.nil_sublist _))))))))) (fun w1 M => qb RcD_fld_73_0 rfl rfl) λa A↦?_
     refine qs (by kernel_rfl) (jx (us := [.slice so45 ((ts ++ [t2]).length) ca46, .slice ro rs.length rc]) (L' := (.row 33 7 (.slice (some ⟨g41, 0, none⟩) 1 1) 1 (qg Ty.c [t2]) :: .row 9 1 (.slice t2.fo t2.fs.length t2.fc) t2.fs.length (E.strC t2.fs) :: .row 4 1 (.slice t2.mo t2.ms.length t2.mc) t2.ms.length (E.boolC t2.ms) :: .obj g2 (.cells #[.string u.nm, .int .i64 u.par, .slice u.fo u.fs.length u.fc, .slice u.mo u.ms.length u.mc, .bool u.sl, .bool u.op, .string u.ui] 33) :: .obj b (.cells #[.slice so45 ((ts ++ [t2]).length) ca46, .slice ro rs.length rc] 73) :: .row 33 7 (.slice so45 ((ts ++ [t2]).length) ca46) ((ts ++ [t2]).length) (qg Ty.c (ts ++ [t2])) :: .row 86 2 (.slice ro rs.length rc) rs.length (qg Rk.c rs) :: Y)) A M 11 rfl rfl rfl (qy rfl rfl rfl (by kernel_rfl) M 4 rfl rfl rfl) 4 rfl rfl rfl ?_)
     intro w47 M
     refine ⟨(M.sub (cn (cn (cn (cn (cn (cn (cn (List.nil_sublist _))))))))), ?_⟩
     refine zi (by kernel_rfl) ?_
     refine hK28 _ _ (wsk fun K48 hK48 => wrl (sdm A λa A↦?_))
     refine sdo A (ql rfl) λa A↦?_
     refine sdo (v := .pointer (some ⟨b, 0, none⟩)) A (qb RcD_fld_73_0 rfl rfl) λa A↦?_
     refine sdo A (qj M RcD_is1_26 rfl 4 rfl rfl) λa A↦?_
     refine sdo A (qr Tryz.underlying26 rfl) λa A↦?_
     refine sdo (v := .int .i64 ((((ts ++ [t2]).length - 1 : Nat) : Int))) A (qh rfl rfl (fun w => (jw (je (by omega) (by omega)) w).trans (by rw [show ((((ts ++ [t2]).length : Nat) : Int) - 1 : Int) = (((ts ++ [t2]).length - 1 : Nat) : Int) from by omega]))) λa A↦?_
     iterate 2 refine sda A λa A↦?_
     refine qa (hK48 _ _ (wp_ret (hret _ _ (en2 A rfl (qe rfl) (qe rfl) ?_))))
     replace M : Mg w0 w47 (.row 4 1 (.slice t2.mo t2.ms.length t2.mc) t2.ms.length (E.boolC t2.ms) :: .row 33 7 (.slice (some ⟨g41, 0, none⟩) 1 1) 1 (qg Ty.c [t2]) :: .row 9 1 (.slice t2.fo t2.fs.length t2.fc) t2.fs.length (E.strC t2.fs) :: .obj g2 (.cells #[.string u.nm, .int .i64 u.par, .slice u.fo u.fs.length u.fc, .slice u.mo u.ms.length u.mc, .bool u.sl, .bool u.op, .string u.ui] 33) :: .obj b (.cells #[.slice so45 ((ts ++ [t2]).length) ca46, .slice ro rs.length rc] 73) :: .row 33 7 (.slice so45 ((ts ++ [t2]).length) ca46) ((ts ++ [t2]).length) (qg Ty.c (ts ++ [t2])) :: .row 86 2 (.slice ro rs.length rc) rs.length (qg Rk.c rs) :: Y) := M.bring 2 rfl rfl
     replace M : Mg w0 w47 (.row 9 1 (.slice t2.fo t2.fs.length t2.fc) t2.fs.length (E.strC t2.fs) :: .row 4 1 (.slice t2.mo t2.ms.length t2.mc) t2.ms.length (E.boolC t2.ms) :: .row 33 7 (.slice (some ⟨g41, 0, none⟩) 1 1) 1 (qg Ty.c [t2]) :: .obj g2 (.cells #[.string u.nm, .int .i64 u.par, .slice u.fo u.fs.length u.fc, .slice u.mo u.ms.length u.mc, .bool u.sl, .bool u.op, .string u.ui] 33) :: .obj b (.cells #[.slice so45 ((ts ++ [t2]).length) ca46, .slice ro rs.length rc] 73) :: .row 33 7 (.slice so45 ((ts ++ [t2]).length) ca46) ((ts ++ [t2]).length) (qg Ty.c (ts ++ [t2])) :: .row 86 2 (.slice ro rs.length rc) rs.length (qg Rk.c rs) :: Y) := M.bring 2 rfl rfl
     replace M : Mg w0 w47 (.row 86 2 (.slice ro rs.length rc) rs.length (qg Rk.c rs) :: .row 9 1 (.slice t2.fo t2.fs.length t2.fc) t2.fs.length (E.strC t2.fs) :: .row 4 1 (.slice t2.mo t2.ms.length t2.mc) t2.ms.length (E.boolC t2.ms) :: .row 33 7 (.slice (some ⟨g41, 0, none⟩) 1 1) 1 (qg Ty.c [t2]) :: .obj g2 (.cells #[.string u.nm, .int .i64 u.par, .slice u.fo u.fs.length u.fc, .slice u.mo u.ms.length u.mc, .bool u.sl, .bool u.op, .string u.ui] 33) :: .obj b (.cells #[.slice so45 ((ts ++ [t2]).length) ca46, .slice ro rs.length rc] 73) :: .row 33 7 (.slice so45 ((ts ++ [t2]).length) ca46) ((ts ++ [t2]).length) (qg Ty.c (ts ++ [t2])) :: Y) := M.bring 6 rfl rfl
     replace M : Mg w0 w47 (.row 33 7 (.slice so45 ((ts ++ [t2]).length) ca46) ((ts ++ [t2]).length) (qg Ty.c (ts ++ [t2])) :: .row 86 2 (.slice ro rs.length rc) rs.length (qg Rk.c rs) :: .row 9 1 (.slice t2.fo t2.fs.length t2.fc) t2.fs.length (E.strC t2.fs) :: .row 4 1 (.slice t2.mo t2.ms.length t2.mc) t2.ms.length (E.boolC t2.ms) :: .row 33 7 (.slice (some ⟨g41, 0, none⟩) 1 1) 1 (qg Ty.c [t2]) :: .obj g2 (.cells #[.string u.nm, .int .i64 u.par, .slice u.fo u.fs.length u.fc, .slice u.mo u.ms.length u.mc, .bool u.sl, .bool u.op, .string u.ui] 33) :: .obj b (.cells #[.slice so45 ((ts ++ [t2]).length) ca46, .slice ro rs.length rc] 73) :: Y) := M.bring 6 rfl rfl
     replace M : Mg w0 w47 (.obj b (.cells #[.slice so45 ((ts ++ [t2]).length) ca46, .slice ro rs.length rc] 73) :: .row 33 7 (.slice so45 ((ts ++ [t2]).length) ca46) ((ts ++ [t2]).length) (qg Ty.c (ts ++ [t2])) :: .row 86 2 (.slice ro rs.length rc) rs.length (qg Rk.c rs) :: .row 9 1 (.slice t2.fo t2.fs.length t2.fc) t2.fs.length (E.strC t2.fs) :: .row 4 1 (.slice t2.mo t2.ms.length t2.mc) t2.ms.length (E.boolC t2.ms) :: .row 33 7 (.slice (some ⟨g41, 0, none⟩) 1 1) 1 (qg Ty.c [t2]) :: .obj g2 (.cells #[.string u.nm, .int .i64 u.par, .slice u.fo u.fs.length u.fc, .slice u.mo u.ms.length u.mc, .bool u.sl, .bool u.op, .string u.ui] 33) :: Y) := M.bring 6 rfl rfl
     replace M : Mg w0 w47 (.obj b (.cells #[.slice so45 ((ts ++ [t2]).length) ca46, .slice ro rs.length rc] 73) :: .row 33 7 (.slice so45 ((ts ++ [t2]).length) ca46) ((ts ++ [t2]).length) (qg Ty.c (ts ++ [t2])) :: .row 86 2 (.slice ro rs.length rc) rs.length (qg Rk.c rs) :: .row 9 1 (.slice t2.fo t2.fs.length t2.fc) t2.fs.length (E.strC t2.fs) :: .row 4 1 (.slice t2.mo t2.ms.length t2.mc) t2.ms.length (E.boolC t2.ms) :: Y) := by
      have h9 := M.sub (cc (cc (cc (cc (cc (cn (cn (.refl _))))))))
      exact h9
     exact ⟨t2, so45, ca46, by rw [show (ts ++ [t2]).length - 1 = ts.length by omega], hk2, M⟩
    ·
     refine zl A 6 rfl rfl rfl rfl (qx rfl rfl (fun w => by kernel_rfl)) (jo (hU _ (M.dropn 4)) hul hum hz1 hz2 huz) ?_
     rintro _ w50 ⟨t2, rfl, hk2, hM49⟩
     replace M : Mg w0 w50 (.row 9 1 (.slice t2.fo t2.fs.length t2.fc) t2.fs.length (E.strC t2.fs) :: .row 4 1 (.slice t2.mo t2.ms.length t2.mc) t2.ms.length (E.boolC t2.ms) :: .obj g2 (.cells #[.string u.nm, .int .i64 u.par, .slice u.fo u.fs.length u.fc, .slice u.mo u.ms.length u.mc, .bool u.sl, .bool u.op, .string u.ui] 33) :: .obj b (.cells #[.slice tz ts.length tc, .slice ro rs.length rc] 73) :: .row 33 7 (.slice tz ts.length tc) ts.length (qg Ty.c ts) :: .row 86 2 (.slice ro rs.length rc) rs.length (qg Rk.c rs) :: Y) := (M.both hM49 (qi (by simp) (qi (by simp) (qi (by simp) (qi (by simp) hY)))) (qi (by simp) (qi (by simp) (qk qp))))
     refine ⟨_, rfl, (M.sub (cn (cn (cn (cn (cn (cn (List.nil_sublist _)))))))), ?_⟩
     intro a A
     refine xd (rs := [4, 7]) (by kernel_rfl) (by simp) ⟨?_, ?_, trivial⟩
     ·
      refine xh A 4 rfl rfl rfl rfl (qj M RcD_is1_26 rfl 3 rfl rfl) (M.sub (cn (cn (cn (cn (cn (cn (List.nil_sublist _)))))))) λa A↦?_
      refine qs (by kernel_rfl) (vr (e := 33) (sz := 7) (m := 1) (vs := qg Ty.c [t2]) A M 7 rfl rfl rfl rfl (qz rfl (by kernel_rfl)) rfl rfl (.inl (by decide)) ?_)
      intro g51 w52 M
      refine ⟨(M.sub (cn (cn (cn (cn (cn (cn (cn (List.nil_sublist _))))))))), ?_⟩
      intro a A
      refine qs (by kernel_rfl) (js (e := 33) (sz := 7) (k := 5) (q := ts.length) (m := 1) (xs := qg Ty.c ts) (news := qg Ty.c [t2]) (L' := fun v53 => (.row 33 7 (.slice (some ⟨g51, 0, none⟩) 1 1) 1 (qg Ty.c [t2]) :: .row 9 1 (.slice t2.fo t2.fs.length t2.fc) t2.fs.length (E.strC t2.fs) :: .row 4 1 (.slice t2.mo t2.ms.length t2.mc) t2.ms.length (E.boolC t2.ms) :: .obj g2 (.cells #[.string u.nm, .int .i64 u.par, .slice u.fo u.fs.length u.fc, .slice u.mo u.ms.length u.mc, .bool u.sl, .bool u.op, .string u.ui] 33) :: .obj b (.cells #[.slice tz ts.length tc, .slice ro rs.length rc] 73) :: .row 33 7 (v53) (ts.length + 1) (qg Ty.c ts ++ qg Ty.c [t2]) :: .row 86 2 (.slice ro rs.length rc) rs.length (qg Rk.c rs) :: Y)) A 8 rfl rfl rfl rfl (jq (z := .agg #[.string (⟨#[]⟩), .int .i64 0, .slice none 0 0, .slice none 0 0, .bool false, .bool false, .string (⟨#[]⟩)]) (sz := 7) (by_ := 96) Tryz.underlying26 (by kernel_rfl) rfl rfl rfl M 5 rfl rfl rfl rfl (rc_own (M.has 0 rfl)) (vv _) (by omega)) (fun _ => rfl) ?_)
      intro v53 w54 M
      replace M : Mg w0 w54 (.row 33 7 (.slice (some ⟨g51, 0, none⟩) 1 1) 1 (qg Ty.c [t2]) :: .row 9 1 (.slice t2.fo t2.fs.length t2.fc) t2.fs.length (E.strC t2.fs) :: .row 4 1 (.slice t2.mo t2.ms.length t2.mc) t2.ms.length (E.boolC t2.ms) :: .obj g2 (.cells #[.string u.nm, .int .i64 u.par, .slice u.fo u.fs.length u.fc, .slice u.mo u.ms.length u.mc, .bool u.sl, .bool u.op, .string u.ui] 33) :: .obj b (.cells #[.slice tz ts.length tc, .slice ro rs.length rc] 73) :: .row 33 7 (v53) ((ts ++ [t2]).length) (qg Ty.c (ts ++ [t2])) :: .row 86 2 (.slice ro rs.length rc) rs.length (qg Rk.c rs) :: Y) := by
       have h9 := M
       rw [← zw] at h9
       rw [List.length_append]
       exact h9
      obtain ⟨so55, ca56, rfl⟩ := zn (M.has 5 rfl)
      have hln : (ts ++ [t2]).length = ts.length + 1 := by rw [List.length_append]; rfl
      refine ⟨(M.sub (cn (cn (cn (cn (cn (cn (cn (List.nil_sublist _))))))))), ?_⟩
      intro a A
      refine qf A 9 rfl rfl rfl rfl hP (M.sub (cn (cn (cn (cn (cn (cn (cn (List.nil_sublist _))))))))) (fun w1 M => ql rfl) λa A↦?_
      refine qf (v := .pointer (some ⟨b, 0, none⟩)) A 10 rfl rfl rfl rfl hP (M.sub (cn (cn (cn (cn (cn (cn (cn (List.nil_sublist _))))))))) (fun w1 M => qb RcD_fld_73_0 rfl rfl) λa A↦?_
      refine qs (by kernel_rfl) (jx (us := [.slice so55 ((ts ++ [t2]).length) ca56, .slice ro rs.length rc]) (L' := (.row 33 7 (.slice (some ⟨g51, 0, none⟩) 1 1) 1 (qg Ty.c [t2]) :: .row 9 1 (.slice t2.fo t2.fs.length t2.fc) t2.fs.length (E.strC t2.fs) :: .row 4 1 (.slice t2.mo t2.ms.length t2.mc) t2.ms.length (E.boolC t2.ms) :: .obj g2 (.cells #[.string u.nm, .int .i64 u.par, .slice u.fo u.fs.length u.fc, .slice u.mo u.ms.length u.mc, .bool u.sl, .bool u.op, .string u.ui] 33) :: .obj b (.cells #[.slice so55 ((ts ++ [t2]).length) ca56, .slice ro rs.length rc] 73) :: .row 33 7 (.slice so55 ((ts ++ [t2]).length) ca56) ((ts ++ [t2]).length) (qg Ty.c (ts ++ [t2])) :: .row 86 2 (.slice ro rs.length rc) rs.length (qg Rk.c rs) :: Y)) A M 11 rfl rfl rfl (qy rfl rfl rfl (by kernel_rfl) M 4 rfl rfl rfl) 4 rfl rfl rfl ?_)
      intro w57 M
      refine ⟨(M.sub (cn (cn (cn (cn (cn (cn (cn (List.nil_sublist _))))))))), ?_⟩
      refine zi (by kernel_rfl) ?_
      refine hK28 _ _ (wsk fun K58 hK58 => wrl (sdm A λa A↦?_))
      refine sdo A (ql rfl) λa A↦?_
      refine sdo (v := .pointer (some ⟨b, 0, none⟩)) A (qb RcD_fld_73_0 rfl rfl) λa A↦?_
      refine sdo A (qj M RcD_is1_26 rfl 4 rfl rfl) λa A↦?_
      refine sdo A (qr Tryz.underlying26 rfl) λa A↦?_
      refine sdo (v := .int .i64 ((((ts ++ [t2]).length - 1 : Nat) : Int))) A (qh rfl rfl (fun w => (jw (je (by omega) (by omega)) w).trans (by rw [show ((((ts ++ [t2]).length : Nat) : Int) - 1 : Int) = (((ts ++ [t2]).length - 1 : Nat) : Int) from by omega]))) λa A↦?_
      iterate 2 refine sda A λa A↦?_
      refine qa (hK58 _ _ (wp_ret (hret _ _ (en2 A rfl (qe rfl) (qe rfl) ?_))))
      replace M : Mg w0 w57 (.row 4 1 (.slice t2.mo t2.ms.length t2.mc) t2.ms.length (E.boolC t2.ms) :: .row 33 7 (.slice (some ⟨g51, 0, none⟩) 1 1) 1 (qg Ty.c [t2]) :: .row 9 1 (.slice t2.fo t2.fs.length t2.fc) t2.fs.length (E.strC t2.fs) :: .obj g2 (.cells #[.string u.nm, .int .i64 u.par, .slice u.fo u.fs.length u.fc, .slice u.mo u.ms.length u.mc, .bool u.sl, .bool u.op, .string u.ui] 33) :: .obj b (.cells #[.slice so55 ((ts ++ [t2]).length) ca56, .slice ro rs.length rc] 73) :: .row 33 7 (.slice so55 ((ts ++ [t2]).length) ca56) ((ts ++ [t2]).length) (qg Ty.c (ts ++ [t2])) :: .row 86 2 (.slice ro rs.length rc) rs.length (qg Rk.c rs) :: Y) := M.bring 2 rfl rfl
      replace M : Mg w0 w57 (.row 9 1 (.slice t2.fo t2.fs.length t2.fc) t2.fs.length (E.strC t2.fs) :: .row 4 1 (.slice t2.mo t2.ms.length t2.mc) t2.ms.length (E.boolC t2.ms) :: .row 33 7 (.slice (some ⟨g51, 0, none⟩) 1 1) 1 (qg Ty.c [t2]) :: .obj g2 (.cells #[.string u.nm, .int .i64 u.par, .slice u.fo u.fs.length u.fc, .slice u.mo u.ms.length u.mc, .bool u.sl, .bool u.op, .string u.ui] 33) :: .obj b (.cells #[.slice so55 ((ts ++ [t2]).length) ca56, .slice ro rs.length rc] 73) :: .row 33 7 (.slice so55 ((ts ++ [t2]).length) ca56) ((ts ++ [t2]).length) (qg Ty.c (ts ++ [t2])) :: .row 86 2 (.slice ro rs.length rc) rs.length (qg Rk.c rs) :: Y) := M.bring 2 rfl rfl
      replace M : Mg w0 w57 (.row 86 2 (.slice ro rs.length rc) rs.length (qg Rk.c rs) :: .row 9 1 (.slice t2.fo t2.fs.length t2.fc) t2.fs.length (E.strC t2.fs) :: .row 4 1 (.slice t2.mo t2.ms.length t2.mc) t2.ms.length (E.boolC t2.ms) :: .row 33 7 (.slice (some ⟨g51, 0, none⟩) 1 1) 1 (qg Ty.c [t2]) :: .obj g2 (.cells #[.string u.nm, .int .i64 u.par, .slice u.fo u.fs.length u.fc, .slice u.mo u.ms.length u.mc, .bool u.sl, .bool u.op, .string u.ui] 33) :: .obj b (.cells #[.slice so55 ((ts ++ [t2]).length) ca56, .slice ro rs.length rc] 73) :: .row 33 7 (.slice so55 ((ts ++ [t2]).length) ca56) ((ts ++ [t2]).length) (qg Ty.c (ts ++ [t2])) :: Y) := M.bring 6 rfl rfl
      replace M : Mg w0 w57 (.row 33 7 (.slice so55 ((ts ++ [t2]).length) ca56) ((ts ++ [t2]).length) (qg Ty.c (ts ++ [t2])) :: .row 86 2 (.slice ro rs.length rc) rs.length (qg Rk.c rs) :: .row 9 1 (.slice t2.fo t2.fs.length t2.fc) t2.fs.length (E.strC t2.fs) :: .row 4 1 (.slice t2.mo t2.ms.length t2.mc) t2.ms.length (E.boolC t2.ms) :: .row 33 7 (.slice (some ⟨g51, 0, none⟩) 1 1) 1 (qg Ty.c [t2]) :: .obj g2 (.cells #[.string u.nm, .int .i64 u.par, .slice u.fo u.fs.length u.fc, .slice u.mo u.ms.length u.mc, .bool u.sl, .bool u.op, .string u.ui] 33) :: .obj b (.cells #[.slice so55 ((ts ++ [t2]).length) ca56, .slice ro rs.length rc] 73) :: Y) := M.bring 6 rfl rfl
      replace M : Mg w0 w57 (.obj b (.cells #[.slice so55 ((ts ++ [t2]).length) ca56, .slice ro rs.length rc] 73) :: .row 33 7 (.slice so55 ((ts ++ [t2]).length) ca56) ((ts ++ [t2]).length) (qg Ty.c (ts ++ [t2])) :: .row 86 2 (.slice ro rs.length rc) rs.length (qg Rk.c rs) :: .row 9 1 (.slice t2.fo t2.fs.length t2.fc) t2.fs.length (E.strC t2.fs) :: .row 4 1 (.slice t2.mo t2.ms.length t2.mc) t2.ms.length (E.boolC t2.ms) :: .row 33 7 (.slice (some ⟨g51, 0, none⟩) 1 1) 1 (qg Ty.c [t2]) :: .obj g2 (.cells #[.string u.nm, .int .i64 u.par, .slice u.fo u.fs.length u.fc, .slice u.mo u.ms.length u.mc, .bool u.sl, .bool u.op, .string u.ui] 33) :: Y) := M.bring 6 rfl rfl
      replace M : Mg w0 w57 (.obj b (.cells #[.slice so55 ((ts ++ [t2]).length) ca56, .slice ro rs.length rc] 73) :: .row 33 7 (.slice so55 ((ts ++ [t2]).length) ca56) ((ts ++ [t2]).length) (qg Ty.c (ts ++ [t2])) :: .row 86 2 (.slice ro rs.length rc) rs.length (qg Rk.c rs) :: .row 9 1 (.slice t2.fo t2.fs.length t2.fc) t2.fs.length (E.strC t2.fs) :: .row 4 1 (.slice t2.mo t2.ms.length t2.mc) t2.ms.length (E.boolC t2.ms) :: Y) := by
       have h9 := M.sub (cc (cc (cc (cc (cc (cn (cn (.refl _))))))))
       exact h9
      exact ⟨t2, so55, ca56, by rw [show (ts ++ [t2]).length - 1 = ts.length by omega], hk2, M⟩
     ·
      refine vr (e := 33) (sz := 7) (m := 1) (vs := qg Ty.c [t2]) A M 7 rfl rfl rfl rfl (qz rfl (by kernel_rfl)) rfl rfl (.inl (by decide)) ?_
      intro g59 w60 M
      refine ⟨(M.sub (cn (cn (cn (cn (cn (cn (cn (List.nil_sublist _))))))))), ?_⟩
      intro a A
      refine qs (by kernel_rfl) (xh A 4 rfl rfl rfl rfl (qj M RcD_is1_26 rfl 4 rfl rfl) (M.sub (cn (cn (cn (cn (cn (cn (cn (List.nil_sublist _))))))))) ?_)
      intro a A
      refine qs (by kernel_rfl) (js (e := 33) (sz := 7) (k := 5) (q := ts.length) (m := 1) (xs := qg Ty.c ts) (news := qg Ty.c [t2]) (L' := fun v61 => (.row 33 7 (.slice (some ⟨g59, 0, none⟩) 1 1) 1 (qg Ty.c [t2]) :: .row 9 1 (.slice t2.fo t2.fs.length t2.fc) t2.fs.length (E.strC t2.fs) :: .row 4 1 (.slice t2.mo t2.ms.length t2.mc) t2.ms.length (E.boolC t2.ms) :: .obj g2 (.cells #[.string u.nm, .int .i64 u.par, .slice u.fo u.fs.length u.fc, .slice u.mo u.ms.length u.mc, .bool u.sl, .bool u.op, .string u.ui] 33) :: .obj b (.cells #[.slice tz ts.length tc, .slice ro rs.length rc] 73) :: .row 33 7 (v61) (ts.length + 1) (qg Ty.c ts ++ qg Ty.c [t2]) :: .row 86 2 (.slice ro rs.length rc) rs.length (qg Rk.c rs) :: Y)) A 8 rfl rfl rfl rfl (jq (z := .agg #[.string (⟨#[]⟩), .int .i64 0, .slice none 0 0, .slice none 0 0, .bool false, .bool false, .string (⟨#[]⟩)]) (sz := 7) (by_ := 96) Tryz.underlying26 (by kernel_rfl) rfl rfl rfl M 5 rfl rfl rfl rfl (rc_own (M.has 0 rfl)) (vv _) (by omega)) (fun _ => rfl) ?_)
      intro v61 w62 M
      replace M : Mg w0 w62 (.row 33 7 (.slice (some ⟨g59, 0, none⟩) 1 1) 1 (qg Ty.c [t2]) :: .row 9 1 (.slice t2.fo t2.fs.length t2.fc) t2.fs.length (E.strC t2.fs) :: .row 4 1 (.slice t2.mo t2.ms.length t2.mc) t2.ms.length (E.boolC t2.ms) :: .obj g2 (.cells #[.string u.nm, .int .i64 u.par, .slice u.fo u.fs.length u.fc, .slice u.mo u.ms.length u.mc, .bool u.sl, .bool u.op, .string u.ui] 33) :: .obj b (.cells #[.slice tz ts.length tc, .slice ro rs.length rc] 73) :: .row 33 7 (v61) ((ts ++ [t2]).length) (qg Ty.c (ts ++ [t2])) :: .row 86 2 (.slice ro rs.length rc) rs.length (qg Rk.c rs) :: Y) := by
       have h9 := M
       rw [← zw] at h9
       rw [List.length_append]
       exact h9
      obtain ⟨so63, ca64, rfl⟩ := zn (M.has 5 rfl)
      have hln : (ts ++ [t2]).length = ts.length + 1 := by rw [List.length_append]; rfl
      refine ⟨(M.sub (cn (cn (cn (cn (cn (cn (cn (List.nil_sublist _))))))))), ?_⟩
      intro a A
      refine qf A 9 rfl rfl rfl rfl hP (M.sub (cn (cn (cn (cn (cn (cn (cn (List.nil_sublist _))))))))) (fun w1 M => ql rfl) λa A↦?_
      refine qf (v := .pointer (some ⟨b, 0, none⟩)) A 10 rfl rfl rfl rfl hP (M.sub (cn (cn (cn (cn (cn (cn (cn (List.nil_sublist _))))))))) (fun w1 M => qb RcD_fld_73_0 rfl rfl) λa A↦?_
      refine qs (by kernel_rfl) (jx (us := [.slice so63 ((ts ++ [t2]).length) ca64, .slice ro rs.length rc]) (L' := (.row 33 7 (.slice (some ⟨g59, 0, none⟩) 1 1) 1 (qg Ty.c [t2]) :: .row 9 1 (.slice t2.fo t2.fs.length t2.fc) t2.fs.length (E.strC t2.fs) :: .row 4 1 (.slice t2.mo t2.ms.length t2.mc) t2.ms.length (E.boolC t2.ms) :: .obj g2 (.cells #[.string u.nm, .int .i64 u.par, .slice u.fo u.fs.length u.fc, .slice u.mo u.ms.length u.mc, .bool u.sl, .bool u.op, .string u.ui] 33) :: .obj b (.cells #[.slice so63 ((ts ++ [t2]).length) ca64, .slice ro rs.length rc] 73) :: .row 33 7 (.slice so63 ((ts ++ [t2]).length) ca64) ((ts ++ [t2]).length) (qg Ty.c (ts ++ [t2])) :: .row 86 2 (.slice ro rs.length rc) rs.length (qg Rk.c rs) :: Y)) A M 11 rfl rfl rfl (qy rfl rfl rfl (by kernel_rfl) M 4 rfl rfl rfl) 4 rfl rfl rfl ?_)
      intro w65 M
      refine ⟨(M.sub (cn (cn (cn (cn (cn (cn (cn (List.nil_sublist _))))))))), ?_⟩
      refine zi (by kernel_rfl) ?_
      refine hK28 _ _ (wsk fun K66 hK66 => wrl (sdm A λa A↦?_))
      refine sdo A (ql rfl) λa A↦?_
      refine sdo (v := .pointer (some ⟨b, 0, none⟩)) A (qb RcD_fld_73_0 rfl rfl) λa A↦?_
      refine sdo A (qj M RcD_is1_26 rfl 4 rfl rfl) λa A↦?_
      refine sdo A (qr Tryz.underlying26 rfl) λa A↦?_
      refine sdo (v := .int .i64 ((((ts ++ [t2]).length - 1 : Nat) : Int))) A (qh rfl rfl (fun w => (jw (je (by omega) (by omega)) w).trans (by rw [show ((((ts ++ [t2]).length : Nat) : Int) - 1 : Int) = (((ts ++ [t2]).length - 1 : Nat) : Int) from by omega]))) λa A↦?_
      iterate 2 refine sda A λa A↦?_
      refine qa (hK66 _ _ (wp_ret (hret _ _ (en2 A rfl (qe rfl) (qe rfl) ?_))))
      replace M : Mg w0 w65 (.row 4 1 (.slice t2.mo t2.ms.length t2.mc) t2.ms.length (E.boolC t2.ms) :: .row 33 7 (.slice (some ⟨g59, 0, none⟩) 1 1) 1 (qg Ty.c [t2]) :: .row 9 1 (.slice t2.fo t2.fs.length t2.fc) t2.fs.length (E.strC t2.fs) :: .obj g2 (.cells #[.string u.nm, .int .i64 u.par, .slice u.fo u.fs.length u.fc, .slice u.mo u.ms.length u.mc, .bool u.sl, .bool u.op, .string u.ui] 33) :: .obj b (.cells #[.slice so63 ((ts ++ [t2]).length) ca64, .slice ro rs.length rc] 73) :: .row 33 7 (.slice so63 ((ts ++ [t2]).length) ca64) ((ts ++ [t2]).length) (qg Ty.c (ts ++ [t2])) :: .row 86 2 (.slice ro rs.length rc) rs.length (qg Rk.c rs) :: Y) := M.bring 2 rfl rfl
      replace M : Mg w0 w65 (.row 9 1 (.slice t2.fo t2.fs.length t2.fc) t2.fs.length (E.strC t2.fs) :: .row 4 1 (.slice t2.mo t2.ms.length t2.mc) t2.ms.length (E.boolC t2.ms) :: .row 33 7 (.slice (some ⟨g59, 0, none⟩) 1 1) 1 (qg Ty.c [t2]) :: .obj g2 (.cells #[.string u.nm, .int .i64 u.par, .slice u.fo u.fs.length u.fc, .slice u.mo u.ms.length u.mc, .bool u.sl, .bool u.op, .string u.ui] 33) :: .obj b (.cells #[.slice so63 ((ts ++ [t2]).length) ca64, .slice ro rs.length rc] 73) :: .row 33 7 (.slice so63 ((ts ++ [t2]).length) ca64) ((ts ++ [t2]).length) (qg Ty.c (ts ++ [t2])) :: .row 86 2 (.slice ro rs.length rc) rs.length (qg Rk.c rs) :: Y) := M.bring 2 rfl rfl
      replace M : Mg w0 w65 (.row 86 2 (.slice ro rs.length rc) rs.length (qg Rk.c rs) :: .row 9 1 (.slice t2.fo t2.fs.length t2.fc) t2.fs.length (E.strC t2.fs) :: .row 4 1 (.slice t2.mo t2.ms.length t2.mc) t2.ms.length (E.boolC t2.ms) :: .row 33 7 (.slice (some ⟨g59, 0, none⟩) 1 1) 1 (qg Ty.c [t2]) :: .obj g2 (.cells #[.string u.nm, .int .i64 u.par, .slice u.fo u.fs.length u.fc, .slice u.mo u.ms.length u.mc, .bool u.sl, .bool u.op, .string u.ui] 33) :: .obj b (.cells #[.slice so63 ((ts ++ [t2]).length) ca64, .slice ro rs.length rc] 73) :: .row 33 7 (.slice so63 ((ts ++ [t2]).length) ca64) ((ts ++ [t2]).length) (qg Ty.c (ts ++ [t2])) :: Y) := M.bring 6 rfl rfl
      replace M : Mg w0 w65 (.row 33 7 (.slice so63 ((ts ++ [t2]).length) ca64) ((ts ++ [t2]).length) (qg Ty.c (ts ++ [t2])) :: .row 86 2 (.slice ro rs.length rc) rs.length (qg Rk.c rs) :: .row 9 1 (.slice t2.fo t2.fs.length t2.fc) t2.fs.length (E.strC t2.fs) :: .row 4 1 (.slice t2.mo t2.ms.length t2.mc) t2.ms.length (E.boolC t2.ms) :: .row 33 7 (.slice (some ⟨g59, 0, none⟩) 1 1) 1 (qg Ty.c [t2]) :: .obj g2 (.cells #[.string u.nm, .int .i64 u.par, .slice u.fo u.fs.length u.fc, .slice u.mo u.ms.length u.mc, .bool u.sl, .bool u.op, .string u.ui] 33) :: .obj b (.cells #[.slice so63 ((ts ++ [t2]).length) ca64, .slice ro rs.length rc] 73) :: Y) := M.bring 6 rfl rfl
      replace M : Mg w0 w65 (.obj b (.cells #[.slice so63 ((ts ++ [t2]).length) ca64, .slice ro rs.length rc] 73) :: .row 33 7 (.slice so63 ((ts ++ [t2]).length) ca64) ((ts ++ [t2]).length) (qg Ty.c (ts ++ [t2])) :: .row 86 2 (.slice ro rs.length rc) rs.length (qg Rk.c rs) :: .row 9 1 (.slice t2.fo t2.fs.length t2.fc) t2.fs.length (E.strC t2.fs) :: .row 4 1 (.slice t2.mo t2.ms.length t2.mc) t2.ms.length (E.boolC t2.ms) :: .row 33 7 (.slice (some ⟨g59, 0, none⟩) 1 1) 1 (qg Ty.c [t2]) :: .obj g2 (.cells #[.string u.nm, .int .i64 u.par, .slice u.fo u.fs.length u.fc, .slice u.mo u.ms.length u.mc, .bool u.sl, .bool u.op, .string u.ui] 33) :: Y) := M.bring 6 rfl rfl
      replace M : Mg w0 w65 (.obj b (.cells #[.slice so63 ((ts ++ [t2]).length) ca64, .slice ro rs.length rc] 73) :: .row 33 7 (.slice so63 ((ts ++ [t2]).length) ca64) ((ts ++ [t2]).length) (qg Ty.c (ts ++ [t2])) :: .row 86 2 (.slice ro rs.length rc) rs.length (qg Rk.c rs) :: .row 9 1 (.slice t2.fo t2.fs.length t2.fc) t2.fs.length (E.strC t2.fs) :: .row 4 1 (.slice t2.mo t2.ms.length t2.mc) t2.ms.length (E.boolC t2.ms) :: Y) := by
       have h9 := M.sub (cc (cc (cc (cc (cc (cn (cn (.refl _))))))))
       exact h9
      exact ⟨t2, so63, ca64, by rw [show (ts ++ [t2]).length - 1 = ts.length by omega], hk2, M⟩
 ·
  have hb15' := bne_eq_false_iff_eq.1 hb15
  refine qf (v := .bool false) A 2 rfl rfl rfl rfl hP (M.sub (cc (cc (cc (cn (List.nil_sublist _)))))) (fun w1 M => qh rfl rfl (fun w => (jj w).trans (by rw [hb15]))) λa A↦?_
  refine qf A 3 rfl rfl rfl rfl hP (M.sub (cc (cc (cc (cn (List.nil_sublist _)))))) (fun w1 M => qt rfl) λa A↦?_
  refine zq A 4 rfl rfl rfl rfl hP (M.sub (cc (cc (cc (cn (List.nil_sublist _)))))) λa A↦?_
  refine zq A 5 rfl rfl rfl rfl hP (M.sub (cc (cc (cc (cn (List.nil_sublist _)))))) λa A↦?_
  refine zq A 6 rfl rfl rfl rfl hP (M.sub (cc (cc (cc (cn (List.nil_sublist _)))))) λa A↦?_
  refine zq A 7 rfl rfl rfl rfl hP (M.sub (cc (cc (cc (cn (List.nil_sublist _)))))) λa A↦?_
  refine zq A 8 rfl rfl rfl rfl hP (M.sub (cc (cc (cc (cn (List.nil_sublist _)))))) λa A↦?_
  refine zq A 9 rfl rfl rfl rfl hP (M.sub (cc (cc (cc (cn (List.nil_sublist _)))))) λa A↦?_
  refine zq A 10 rfl rfl rfl rfl hP (M.sub (cc (cc (cc (cn (List.nil_sublist _)))))) λa A↦?_
  refine zq A 11 rfl rfl rfl rfl hP (M.sub (cc (cc (cc (cn (List.nil_sublist _)))))) λa A↦?_
  refine zq A 12 rfl rfl rfl rfl hP (M.sub (cc (cc (cc (cn (List.nil_sublist _)))))) λa A↦?_
  refine qf (v := .bool false) A 13 rfl rfl rfl rfl hP (M.sub (cc (cc (cc (cn (List.nil_sublist _)))))) (fun w1 M => zr rfl rfl rfl rfl) λa A↦?_
  refine qf A 14 rfl rfl rfl rfl hP (M.sub (cc (cc (cc (cn (List.nil_sublist _)))))) (fun w1 M => zd rfl) λa A↦?_
  refine zi (by kernel_rfl) ?_
  refine hK14 _ _ (wp_cond_false (A.ev rfl) ?_)
  refine wsk fun K67 hK67 => jm (S := fun w1 => Mg w0 w1 (.obj g2 (.cells #[.string u.nm, .int .i64 u.par, .slice u.fo u.fs.length u.fc, .slice u.mo u.ms.length u.mc, .bool u.sl, .bool u.op, .string u.ui] 33) :: .obj b (.cells #[.slice tz ts.length tc, .slice ro rs.length rc] 73) :: [])) (by kernel_rfl) ?_
  replace M := M.drew
  refine qf A 0 rfl rfl rfl rfl hP (M.sub (cc (cc (cn (cn (List.nil_sublist _)))))) (fun w1 M => qt rfl) λa A↦?_
  refine qf (v := .pointer (some ⟨g2, 1, none⟩)) A 1 rfl rfl rfl rfl hP (M.sub (cc (cc (cn (cn (List.nil_sublist _)))))) (fun w1 M => qb RcD_fld_33_1 rfl rfl) λa A↦?_
  refine qf A 2 rfl rfl rfl rfl hP (M.sub (cc (cc (cn (cn (List.nil_sublist _)))))) (fun w1 M => qj M RcD_is1_3 rfl 0 rfl rfl) λa A↦?_
  refine qf (v := .pointer (some ⟨g2, 2, none⟩)) A 4 rfl rfl rfl rfl hP (M.sub (cc (cc (cn (cn (List.nil_sublist _)))))) (fun w1 M => qb RcD_fld_33_2 rfl rfl) λa A↦?_
  refine qf A 5 rfl rfl rfl rfl hP (M.sub (cc (cc (cn (cn (List.nil_sublist _)))))) (fun w1 M => qj M RcD_is1_30 rfl 0 rfl rfl) λa A↦?_
  refine qf (v := .int .i64 (((u.fs.length : Nat) : Int))) A 6 rfl rfl rfl rfl hP (M.sub (cc (cc (cn (cn (List.nil_sublist _)))))) (fun w1 M => qr Tryz.underlying30 rfl) λa A↦?_
  refine qs (by kernel_rfl) (zl A 3 rfl rfl rfl rfl (qx rfl rfl (fun w => by kernel_rfl)) (xk (hsr _ ((show Mg _ _ (.obj b (.cells #[.slice tz ts.length tc, .slice ro rs.length rc] 73) :: .row 33 7 (.slice tz ts.length tc) ts.length (qg Ty.c ts) :: .row 86 2 (.slice ro rs.length rc) rs.length (qg Rk.c rs) :: Y) from (M.dropn 1)))) hW (by omega) (by omega)) ?_)
  rintro _ w69 ⟨rfl, hb68⟩
  replace M := M.call hb68
  refine ⟨_, rfl, (M.sub (cc (cc (cn (cn (List.nil_sublist _)))))), ?_⟩
  intro a A
  refine qf (v := .int .i64 (((cnt (ts.map Ty.k) u.par + u.fs.length : Nat) : Int))) A 7 rfl rfl rfl rfl hP (M.sub (cc (cc (cn (cn (List.nil_sublist _)))))) (fun w1 M => qh rfl rfl (fun w => (jf (je (by omega) (by omega)) w).trans (by rw [show (((cnt (ts.map Ty.k) u.par : Nat) : Int) + ((u.fs.length : Nat) : Int) : Int) = ((cnt (ts.map Ty.k) u.par + u.fs.length : Nat) : Int) from by omega]))) λa A↦?_
  refine qf (v := .bool false) A 8 rfl rfl rfl rfl hP (M.sub (cc (cc (cn (cn (List.nil_sublist _)))))) (fun w1 M => qh rfl rfl (fun w => (xf w).trans (by rw [show (decide (16 < ((cnt (ts.map Ty.k) u.par + u.fs.length : Nat) : Int))) = false from (decide_eq_false (by omega))]))) λa A↦?_
  refine qf A 9 rfl rfl rfl rfl hP (M.sub (cc (cc (cn (cn (List.nil_sublist _)))))) (fun w1 M => qt rfl) λa A↦?_
  refine qf A 10 rfl rfl rfl rfl hP (M.sub (cc (cc (cn (cn (List.nil_sublist _)))))) (fun w1 M => qt rfl) λa A↦?_
  refine qf A 11 rfl rfl rfl rfl hP (M.sub (cc (cc (cn (cn (List.nil_sublist _)))))) (fun w1 M => ql rfl) λa A↦?_
  refine qf (v := .pointer (some ⟨b, 0, none⟩)) A 12 rfl rfl rfl rfl hP (M.sub (cc (cc (cn (cn (List.nil_sublist _)))))) (fun w1 M => qb RcD_fld_73_0 rfl rfl) λa A↦?_
  refine qf A 13 rfl rfl rfl rfl hP (M.sub (cc (cc (cn (cn (List.nil_sublist _)))))) (fun w1 M => qj M RcD_is1_26 rfl 1 rfl rfl) λa A↦?_
  refine qf (v := .int .i64 (((ts.length : Nat) : Int))) A 14 rfl rfl rfl rfl hP (M.sub (cc (cc (cn (cn (List.nil_sublist _)))))) (fun w1 M => qr Tryz.underlying26 rfl) λa A↦?_
  refine qf (v := .bool false) A 15 rfl rfl rfl rfl hP (M.sub (cc (cc (cn (cn (List.nil_sublist _)))))) (fun w1 M => qh rfl rfl (fun w => (zt w).trans (by rw [show (decide (4096 ≤ ((ts.length : Nat) : Int))) = false from (decide_eq_false (by omega))]))) λa A↦?_
  refine qf (v := .bool false) A 16 rfl rfl rfl rfl hP (M.sub (cc (cc (cn (cn (List.nil_sublist _)))))) (fun w1 M => zr rfl rfl rfl rfl) λa A↦?_
  refine qf A 17 rfl rfl rfl rfl hP (M.sub (cc (cc (cn (cn (List.nil_sublist _)))))) (fun w1 M => zd rfl) λa A↦?_
  refine zi (by kernel_rfl) ?_
  refine hK67 _ _ (wp_cond_false (A.ev rfl) ?_)
  refine wp_skip (hK13 _ _ (wsk fun K70 hK70 => jm (S := fun w1 => Mg w0 w1 ([])) (by kernel_rfl) ?_))
  replace M := M.drew
  refine qf A 0 rfl rfl rfl rfl hP (M.sub (cn (cn (cn (cn (List.nil_sublist _)))))) (fun w1 M => qt rfl) λa A↦?_
  refine qf A 1 rfl rfl rfl rfl hP (M.sub (cn (cn (cn (cn (List.nil_sublist _)))))) (fun w1 M => qt rfl) λa A↦?_
  refine qf A 2 rfl rfl rfl rfl hP (M.sub (cn (cn (cn (cn (List.nil_sublist _)))))) (fun w1 M => ql rfl) λa A↦?_
  refine qf (v := .pointer (some ⟨b, 0, none⟩)) A 3 rfl rfl rfl rfl hP (M.sub (cn (cn (cn (cn (List.nil_sublist _)))))) (fun w1 M => qb RcD_fld_73_0 rfl rfl) λa A↦?_
  refine xd (rs := [4, 5]) (by kernel_rfl) (by simp) ⟨?_, ?_, trivial⟩
  ·
   refine xh A 4 rfl rfl rfl rfl (qj M RcD_is1_26 rfl 1 rfl rfl) (M.sub (cn (cn (cn (cn (List.nil_sublist _)))))) λa A↦?_
   refine qs (by kernel_rfl) (xh A 5 rfl rfl rfl rfl (zu M RcD_isS_33 rfl 0 rfl (cs := [.string u.nm, .int .i64 u.par, .slice u.fo u.fs.length u.fc, .slice u.mo u.ms.length u.mc, .bool u.sl, .bool u.op, .string u.ui]) rfl rfl) (M.sub (cn (cn (cn (cn (List.nil_sublist _)))))) ?_)
   intro a A
   refine qs (by kernel_rfl) (zl A 6 rfl rfl rfl rfl (qx rfl rfl (fun w => by kernel_rfl)) (jo (hU _ (M.dropn 4)) hul hum hz1 hz2 huz) ?_)
   rintro _ w72 ⟨t2, rfl, hk2, hM71⟩
   replace M : Mg w0 w72 (.row 9 1 (.slice t2.fo t2.fs.length t2.fc) t2.fs.length (E.strC t2.fs) :: .row 4 1 (.slice t2.mo t2.ms.length t2.mc) t2.ms.length (E.boolC t2.ms) :: .obj g2 (.cells #[.string u.nm, .int .i64 u.par, .slice u.fo u.fs.length u.fc, .slice u.mo u.ms.length u.mc, .bool u.sl, .bool u.op, .string u.ui] 33) :: .obj b (.cells #[.slice tz ts.length tc, .slice ro rs.length rc] 73) :: .row 33 7 (.slice tz ts.length tc) ts.length (qg Ty.c ts) :: .row 86 2 (.slice ro rs.length rc) rs.length (qg Rk.c rs) :: Y) := (M.both hM71 (qi (by simp) (qi (by simp) (qi (by simp) (qi (by simp) hY)))) (qi (by simp) (qi (by simp) (qk qp))))
   refine ⟨_, rfl, (M.sub (cn (cn (cn (cn (cn (cn (List.nil_sublist _)))))))), ?_⟩
   intro a A
   refine qs (by kernel_rfl) (vr (e := 33) (sz := 7) (m := 1) (vs := qg Ty.c [t2]) A M 7 rfl rfl rfl rfl (qz rfl (by kernel_rfl)) rfl rfl (.inl (by decide)) ?_)
   intro g73 w74 M
   refine ⟨(M.sub (cn (cn (cn (cn (cn (cn (cn (List.nil_sublist _))))))))), ?_⟩
   intro a A
   refine qs (by kernel_rfl) (js (e := 33) (sz := 7) (k := 5) (q := ts.length) (m := 1) (xs := qg Ty.c ts) (news := qg Ty.c [t2]) (L' := fun v75 => (.row 33 7 (.slice (some ⟨g73, 0, none⟩) 1 1) 1 (qg Ty.c [t2]) :: .row 9 1 (.slice t2.fo t2.fs.length t2.fc) t2.fs.length (E.strC t2.fs) :: .row 4 1 (.slice t2.mo t2.ms.length t2.mc) t2.ms.length (E.boolC t2.ms) :: .obj g2 (.cells #[.string u.nm, .int .i64 u.par, .slice u.fo u.fs.length u.fc, .slice u.mo u.ms.length u.mc, .bool u.sl, .bool u.op, .string u.ui] 33) :: .obj b (.cells #[.slice tz ts.length tc, .slice ro rs.length rc] 73) :: .row 33 7 (v75) (ts.length + 1) (qg Ty.c ts ++ qg Ty.c [t2]) :: .row 86 2 (.slice ro rs.length rc) rs.length (qg Rk.c rs) :: Y)) A 8 rfl rfl rfl rfl (jq (z := .agg #[.string (⟨#[]⟩), .int .i64 0, .slice none 0 0, .slice none 0 0, .bool false, .bool false, .string (⟨#[]⟩)]) (sz := 7) (by_ := 96) Tryz.underlying26 (by kernel_rfl) rfl rfl rfl M 5 rfl rfl rfl rfl (rc_own (M.has 0 rfl)) (vv _) (by omega)) (fun _ => rfl) ?_)
   intro v75 w76 M
   replace M : Mg w0 w76 (.row 33 7 (.slice (some ⟨g73, 0, none⟩) 1 1) 1 (qg Ty.c [t2]) :: .row 9 1 (.slice t2.fo t2.fs.length t2.fc) t2.fs.length (E.strC t2.fs) :: .row 4 1 (.slice t2.mo t2.ms.length t2.mc) t2.ms.length (E.boolC t2.ms) :: .obj g2 (.cells #[.string u.nm, .int .i64 u.par, .slice u.fo u.fs.length u.fc, .slice u.mo u.ms.length u.mc, .bool u.sl, .bool u.op, .string u.ui] 33) :: .obj b (.cells #[.slice tz ts.length tc, .slice ro rs.length rc] 73) :: .row 33 7 (v75) ((ts ++ [t2]).length) (qg Ty.c (ts ++ [t2])) :: .row 86 2 (.slice ro rs.length rc) rs.length (qg Rk.c rs) :: Y) := by
    have h9 := M
    rw [← zw] at h9
    rw [List.length_append]
    exact h9
   obtain ⟨so77, ca78, rfl⟩ := zn (M.has 5 rfl)
   have hln : (ts ++ [t2]).length = ts.length + 1 := by rw [List.length_append]; rfl
   refine ⟨(M.sub (cn (cn (cn (cn (cn (cn (cn (List.nil_sublist _))))))))), ?_⟩
   intro a A
   refine qf A 9 rfl rfl rfl rfl hP (M.sub (cn (cn (cn (cn (cn (cn (cn (List.nil_sublist _))))))))) (fun w1 M => ql rfl) λa A↦?_
   refine qf (v := .pointer (some ⟨b, 0, none⟩)) A 10 rfl rfl rfl rfl hP (M.sub (cn (cn (cn (cn (cn (cn (cn (List.nil_sublist _))))))))) (fun w1 M => qb RcD_fld_73_0 rfl rfl) λa A↦?_
   refine qs (by kernel_rfl) (jx (us := [.slice so77 ((ts ++ [t2]).length) ca78, .slice ro rs.length rc]) (L' := (.row 33 7 (.slice (some ⟨g73, 0, none⟩) 1 1) 1 (qg Ty.c [t2]) :: .row 9 1 (.slice t2.fo t2.fs.length t2.fc) t2.fs.length (E.strC t2.fs) :: .row 4 1 (.slice t2.mo t2.ms.length t2.mc) t2.ms.length (E.boolC t2.ms) :: .obj g2 (.cells #[.string u.nm, .int .i64 u.par, .slice u.fo u.fs.length u.fc, .slice u.mo u.ms.length u.mc, .bool u.sl, .bool u.op, .string u.ui] 33) :: .obj b (.cells #[.slice so77 ((ts ++ [t2]).length) ca78, .slice ro rs.length rc] 73) :: .row 33 7 (.slice so77 ((ts ++ [t2]).length) ca78) ((ts ++ [t2]).length) (qg Ty.c (ts ++ [t2])) :: .row 86 2 (.slice ro rs.length rc) rs.length (qg Rk.c rs) :: Y)) A M 11 rfl rfl rfl (qy rfl rfl rfl (by kernel_rfl) M 4 rfl rfl rfl) 4 rfl rfl rfl ?_)
   intro w79 M
   refine ⟨(M.sub (cn (cn (cn (cn (cn (cn (cn (List.nil_sublist _))))))))), ?_⟩
   refine zi (by kernel_rfl) ?_
   refine hK70 _ _ (wsk fun K80 hK80 => wrl (sdm A λa A↦?_))
   refine sdo A (ql rfl) λa A↦?_
   refine sdo (v := .pointer (some ⟨b, 0, none⟩)) A (qb RcD_fld_73_0 rfl rfl) λa A↦?_
   refine sdo A (qj M RcD_is1_26 rfl 4 rfl rfl) λa A↦?_
   refine sdo A (qr Tryz.underlying26 rfl) λa A↦?_
   refine sdo (v := .int .i64 ((((ts ++ [t2]).length - 1 : Nat) : Int))) A (qh rfl rfl (fun w => (jw (je (by omega) (by omega)) w).trans (by rw [show ((((ts ++ [t2]).length : Nat) : Int) - 1 : Int) = (((ts ++ [t2]).length - 1 : Nat) : Int) from by omega]))) λa A↦?_
   iterate 2 refine sda A λa A↦?_
   refine qa (hK80 _ _ (wp_ret (hret _ _ (en2 A rfl (qe rfl) (qe rfl) ?_))))
   replace M : Mg w0 w79 (.row 4 1 (.slice t2.mo t2.ms.length t2.mc) t2.ms.length (E.boolC t2.ms) :: .row 33 7 (.slice (some ⟨g73, 0, none⟩) 1 1) 1 (qg Ty.c [t2]) :: .row 9 1 (.slice t2.fo t2.fs.length t2.fc) t2.fs.length (E.strC t2.fs) :: .obj g2 (.cells #[.string u.nm, .int .i64 u.par, .slice u.fo u.fs.length u.fc, .slice u.mo u.ms.length u.mc, .bool u.sl, .bool u.op, .string u.ui] 33) :: .obj b (.cells #[.slice so77 ((ts ++ [t2]).length) ca78, .slice ro rs.length rc] 73) :: .row 33 7 (.slice so77 ((ts ++ [t2]).length) ca78) ((ts ++ [t2]).length) (qg Ty.c (ts ++ [t2])) :: .row 86 2 (.slice ro rs.length rc) rs.length (qg Rk.c rs) :: Y) := M.bring 2 rfl rfl
   replace M : Mg w0 w79 (.row 9 1 (.slice t2.fo t2.fs.length t2.fc) t2.fs.length (E.strC t2.fs) :: .row 4 1 (.slice t2.mo t2.ms.length t2.mc) t2.ms.length (E.boolC t2.ms) :: .row 33 7 (.slice (some ⟨g73, 0, none⟩) 1 1) 1 (qg Ty.c [t2]) :: .obj g2 (.cells #[.string u.nm, .int .i64 u.par, .slice u.fo u.fs.length u.fc, .slice u.mo u.ms.length u.mc, .bool u.sl, .bool u.op, .string u.ui] 33) :: .obj b (.cells #[.slice so77 ((ts ++ [t2]).length) ca78, .slice ro rs.length rc] 73) :: .row 33 7 (.slice so77 ((ts ++ [t2]).length) ca78) ((ts ++ [t2]).length) (qg Ty.c (ts ++ [t2])) :: .row 86 2 (.slice ro rs.length rc) rs.length (qg Rk.c rs) :: Y) := M.bring 2 rfl rfl
   replace M : Mg w0 w79 (.row 86 2 (.slice ro rs.length rc) rs.length (qg Rk.c rs) :: .row 9 1 (.slice t2.fo t2.fs.length t2.fc) t2.fs.length (E.strC t2.fs) :: .row 4 1 (.slice t2.mo t2.ms.length t2.mc) t2.ms.length (E.boolC t2.ms) :: .row 33 7 (.slice (some ⟨g73, 0, none⟩) 1 1) 1 (qg Ty.c [t2]) :: .obj g2 (.cells #[.string u.nm, .int .i64 u.par, .slice u.fo u.fs.length u.fc, .slice u.mo u.ms.length u.mc, .bool u.sl, .bool u.op, .string u.ui] 33) :: .obj b (.cells #[.slice so77 ((ts ++ [t2]).length) ca78, .slice ro rs.length rc] 73) :: .row 33 7 (.slice so77 ((ts ++ [t2]).length) ca78) ((ts ++ [t2]).length) (qg Ty.c (ts ++ [t2])) :: Y) := M.bring 6 rfl rfl
   replace M : Mg w0 w79 (.row 33 7 (.slice so77 ((ts ++ [t2]).length) ca78) ((ts ++ [t2]).length) (qg Ty.c (ts ++ [t2])) :: .row 86 2 (.slice ro rs.length rc) rs.length (qg Rk.c rs) :: .row 9 1 (.slice t2.fo t2.fs.length t2.fc) t2.fs.length (E.strC t2.fs) :: .row 4 1 (.slice t2.mo t2.ms.length t2.mc) t2.ms.length (E.boolC t2.ms) :: .row 33 7 (.slice (some ⟨g73, 0, none⟩) 1 1) 1 (qg Ty.c [t2]) :: .obj g2 (.cells #[.string u.nm, .int .i64 u.par, .slice u.fo u.fs.length u.fc, .slice u.mo u.ms.length u.mc, .bool u.sl, .bool u.op, .string u.ui] 33) :: .obj b (.cells #[.slice so77 ((ts ++ [t2]).length) ca78, .slice ro rs.length rc] 73) :: Y) := M.bring 6 rfl rfl
   replace M : Mg w0 w79 (.obj b (.cells #[.slice so77 ((ts ++ [t2]).length) ca78, .slice ro rs.length rc] 73) :: .row 33 7 (.slice so77 ((ts ++ [t2]).length) ca78) ((ts ++ [t2]).length) (qg Ty.c (ts ++ [t2])) :: .row 86 2 (.slice ro rs.length rc) rs.length (qg Rk.c rs) :: .row 9 1 (.slice t2.fo t2.fs.length t2.fc) t2.fs.length (E.strC t2.fs) :: .row 4 1 (.slice t2.mo t2.ms.length t2.mc) t2.ms.length (E.boolC t2.ms) :: .row 33 7 (.slice (some ⟨g73, 0, none⟩) 1 1) 1 (qg Ty.c [t2]) :: .obj g2 (.cells #[.string u.nm, .int .i64 u.par, .slice u.fo u.fs.length u.fc, .slice u.mo u.ms.length u.mc, .bool u.sl, .bool u.op, .string u.ui] 33) :: Y) := M.bring 6 rfl rfl
   replace M : Mg w0 w79 (.obj b (.cells #[.slice so77 ((ts ++ [t2]).length) ca78, .slice ro rs.length rc] 73) :: .row 33 7 (.slice so77 ((ts ++ [t2]).length) ca78) ((ts ++ [t2]).length) (qg Ty.c (ts ++ [t2])) :: .row 86 2 (.slice ro rs.length rc) rs.length (qg Rk.c rs) :: .row 9 1 (.slice t2.fo t2.fs.length t2.fc) t2.fs.length (E.strC t2.fs) :: .row 4 1 (.slice t2.mo t2.ms.length t2.mc) t2.ms.length (E.boolC t2.ms) :: Y) := by
    have h9 := M.sub (cc (cc (cc (cc (cc (cn (cn (.refl _))))))))
    exact h9
   exact ⟨t2, so77, ca78, by rw [show (ts ++ [t2]).length - 1 = ts.length by omega], hk2, M⟩
  ·
   refine xh A 5 rfl rfl rfl rfl (zu M RcD_isS_33 rfl 0 rfl (cs := [.string u.nm, .int .i64 u.par, .slice u.fo u.fs.length u.fc, .slice u.mo u.ms.length u.mc, .bool u.sl, .bool u.op, .string u.ui]) rfl rfl) (M.sub (cn (cn (cn (cn (List.nil_sublist _)))))) λa A↦?_
   refine xd (rs := [4, 6]) (by kernel_rfl) (by simp) ⟨?_, ?_, trivial⟩
   ·
    refine xh A 4 rfl rfl rfl rfl (qj M RcD_is1_26 rfl 1 rfl rfl) (M.sub (cn (cn (cn (cn (List.nil_sublist _)))))) λa A↦?_
    refine qs (by kernel_rfl) (zl A 6 rfl rfl rfl rfl (qx rfl rfl (fun w => by kernel_rfl)) (jo (hU _ (M.dropn 4)) hul hum hz1 hz2 huz) ?_)
    rintro _ w82 ⟨t2, rfl, hk2, hM81⟩
    replace M : Mg w0 w82 (.row 9 1 (.slice t2.fo t2.fs.length t2.fc) t2.fs.length (E.strC t2.fs) :: .row 4 1 (.slice t2.mo t2.ms.length t2.mc) t2.ms.length (E.boolC t2.ms) :: .obj g2 (.cells #[.string u.nm, .int .i64 u.par, .slice u.fo u.fs.length u.fc, .slice u.mo u.ms.length u.mc, .bool u.sl, .bool u.op, .string u.ui] 33) :: .obj b (.cells #[.slice tz ts.length tc, .slice ro rs.length rc] 73) :: .row 33 7 (.slice tz ts.length tc) ts.length (qg Ty.c ts) :: .row 86 2 (.slice ro rs.length rc) rs.length (qg Rk.c rs) :: Y) := (M.both hM81 (qi (by simp) (qi (by simp) (qi (by simp) (qi (by simp) hY)))) (qi (by simp) (qi (by simp) (qk qp))))
    refine ⟨_, rfl, (M.sub (cn (cn (cn (cn (cn (cn (List.nil_sublist _)))))))), ?_⟩
    intro a A
    refine qs (by kernel_rfl) (vr (e := 33) (sz := 7) (m := 1) (vs := qg Ty.c [t2]) A M 7 rfl rfl rfl rfl (qz rfl (by kernel_rfl)) rfl rfl (.inl (by decide)) ?_)
    intro g83 w84 M
    refine ⟨(M.sub (cn (cn (cn (cn (cn (cn (cn (List.nil_sublist _))))))))), ?_⟩
    intro a A
    refine qs (by kernel_rfl) (js (e := 33) (sz := 7) (k := 5) (q := ts.length) (m := 1) (xs := qg Ty.c ts) (news := qg Ty.c [t2]) (L' := fun v85 => (.row 33 7 (.slice (some ⟨g83, 0, none⟩) 1 1) 1 (qg Ty.c [t2]) :: .row 9 1 (.slice t2.fo t2.fs.length t2.fc) t2.fs.length (E.strC t2.fs) :: .row 4 1 (.slice t2.mo t2.ms.length t2.mc) t2.ms.length (E.boolC t2.ms) :: .obj g2 (.cells #[.string u.nm, .int .i64 u.par, .slice u.fo u.fs.length u.fc, .slice u.mo u.ms.length u.mc, .bool u.sl, .bool u.op, .string u.ui] 33) :: .obj b (.cells #[.slice tz ts.length tc, .slice ro rs.length rc] 73) :: .row 33 7 (v85) (ts.length + 1) (qg Ty.c ts ++ qg Ty.c [t2]) :: .row 86 2 (.slice ro rs.length rc) rs.length (qg Rk.c rs) :: Y)) A 8 rfl rfl rfl rfl (jq (z := .agg #[.string (⟨#[]⟩), .int .i64 0, .slice none 0 0, .slice none 0 0, .bool false, .bool false, .string (⟨#[]⟩)]) (sz := 7) (by_ := 96) Tryz.underlying26 (by kernel_rfl) rfl rfl rfl M 5 rfl rfl rfl rfl (rc_own (M.has 0 rfl)) (vv _) (by omega)) (fun _ => rfl) ?_)
    intro v85 w86 M
    replace M : Mg w0 w86 (.row 33 7 (.slice (some ⟨g83, 0, none⟩) 1 1) 1 (qg Ty.c [t2]) :: .row 9 1 (.slice t2.fo t2.fs.length t2.fc) t2.fs.length (E.strC t2.fs) :: .row 4 1 (.slice t2.mo t2.ms.length t2.mc) t2.ms.length (E.boolC t2.ms) :: .obj g2 (.cells #[.string u.nm, .int .i64 u.par, .slice u.fo u.fs.length u.fc, .slice u.mo u.ms.length u.mc, .bool u.sl, .bool u.op, .string u.ui] 33) :: .obj b (.cells #[.slice tz ts.length tc, .slice ro rs.length rc] 73) :: .row 33 7 (v85) ((ts ++ [t2]).length) (qg Ty.c (ts ++ [t2])) :: .row 86 2 (.slice ro rs.length rc) rs.length (qg Rk.c rs) :: Y) := by
     have h9 := M
     rw [← zw] at h9
     rw [List.length_append]
     exact h9
    obtain ⟨so87, ca88, rfl⟩ := zn (M.has 5 rfl)
    have hln : (ts ++ [t2]).length = ts.length + 1 := by rw [List.length_append]; rfl
    refine ⟨(M.sub (cn (cn (cn (cn (cn (cn (cn (List.nil_sublist _))))))))), ?_⟩
    intro a A
    refine qf A 9 rfl rfl rfl rfl hP (M.sub (cn (cn (cn (cn (cn (cn (cn (List.nil_sublist _))))))))) (fun w1 M => ql rfl) λa A↦?_
    refine qf (v := .pointer (some ⟨b, 0, none⟩)) A 10 rfl rfl rfl rfl hP (M.sub (cn (cn (cn (cn (cn (cn (cn (List.nil_sublist _))))))))) (fun w1 M => qb RcD_fld_73_0 rfl rfl) λa A↦?_
    refine qs (by kernel_rfl) (jx (us := [.slice so87 ((ts ++ [t2]).length) ca88, .slice ro rs.length rc]) (L' := (.row 33 7 (.slice (some ⟨g83, 0, none⟩) 1 1) 1 (qg Ty.c [t2]) :: .row 9 1 (.slice t2.fo t2.fs.length t2.fc) t2.fs.length (E.strC t2.fs) :: .row 4 1 (.slice t2.mo t2.ms.length t2.mc) t2.ms.length (E.boolC t2.ms) :: .obj g2 (.cells #[.string u.nm, .int .i64 u.par, .slice u.fo u.fs.length u.fc, .slice u.mo u.ms.length u.mc, .bool u.sl, .bool u.op, .string u.ui] 33) :: .obj b (.cells #[.slice so87 ((ts ++ [t2]).length) ca88, .slice ro rs.length rc] 73) :: .row 33 7 (.slice so87 ((ts ++ [t2]).length) ca88) ((ts ++ [t2]).length) (qg Ty.c (ts ++ [t2])) :: .row 86 2 (.slice ro rs.length rc) rs.length (qg Rk.c rs) :: Y)) A M 11 rfl rfl rfl (qy rfl rfl rfl (by kernel_rfl) M 4 rfl rfl rfl) 4 rfl rfl rfl ?_)
    intro w89 M
    refine ⟨(M.sub (cn (cn (cn (cn (cn (cn (cn (List.nil_sublist _))))))))), ?_⟩
    refine zi (by kernel_rfl) ?_
    refine hK70 _ _ (wsk fun K90 hK90 => wrl (sdm A λa A↦?_))
    refine sdo A (ql rfl) λa A↦?_
    refine sdo (v := .pointer (some ⟨b, 0, none⟩)) A (qb RcD_fld_73_0 rfl rfl) λa A↦?_
    refine sdo A (qj M RcD_is1_26 rfl 4 rfl rfl) λa A↦?_
    refine sdo A (qr Tryz.underlying26 rfl) λa A↦?_
    refine sdo (v := .int .i64 ((((ts ++ [t2]).length - 1 : Nat) : Int))) A (qh rfl rfl (fun w => (jw (je (by omega) (by omega)) w).trans (by rw [show ((((ts ++ [t2]).length : Nat) : Int) - 1 : Int) = (((ts ++ [t2]).length - 1 : Nat) : Int) from by omega]))) λa A↦?_
    iterate 2 refine sda A λa A↦?_
    refine qa (hK90 _ _ (wp_ret (hret _ _ (en2 A rfl (qe rfl) (qe rfl) ?_))))
    replace M : Mg w0 w89 (.row 4 1 (.slice t2.mo t2.ms.length t2.mc) t2.ms.length (E.boolC t2.ms) :: .row 33 7 (.slice (some ⟨g83, 0, none⟩) 1 1) 1 (qg Ty.c [t2]) :: .row 9 1 (.slice t2.fo t2.fs.length t2.fc) t2.fs.length (E.strC t2.fs) :: .obj g2 (.cells #[.string u.nm, .int .i64 u.par, .slice u.fo u.fs.length u.fc, .slice u.mo u.ms.length u.mc, .bool u.sl, .bool u.op, .string u.ui] 33) :: .obj b (.cells #[.slice so87 ((ts ++ [t2]).length) ca88, .slice ro rs.length rc] 73) :: .row 33 7 (.slice so87 ((ts ++ [t2]).length) ca88) ((ts ++ [t2]).length) (qg Ty.c (ts ++ [t2])) :: .row 86 2 (.slice ro rs.length rc) rs.length (qg Rk.c rs) :: Y) := M.bring 2 rfl rfl
    replace M : Mg w0 w89 (.row 9 1 (.slice t2.fo t2.fs.length t2.fc) t2.fs.length (E.strC t2.fs) :: .row 4 1 (.slice t2.mo t2.ms.length t2.mc) t2.ms.length (E.boolC t2.ms) :: .row 33 7 (.slice (some ⟨g83, 0, none⟩) 1 1) 1 (qg Ty.c [t2]) :: .obj g2 (.cells #[.string u.nm, .int .i64 u.par, .slice u.fo u.fs.length u.fc, .slice u.mo u.ms.length u.mc, .bool u.sl, .bool u.op, .string u.ui] 33) :: .obj b (.cells #[.slice so87 ((ts ++ [t2]).length) ca88, .slice ro rs.length rc] 73) :: .row 33 7 (.slice so87 ((ts ++ [t2]).length) ca88) ((ts ++ [t2]).length) (qg Ty.c (ts ++ [t2])) :: .row 86 2 (.slice ro rs.length rc) rs.length (qg Rk.c rs) :: Y) := M.bring 2 rfl rfl
    replace M : Mg w0 w89 (.row 86 2 (.slice ro rs.length rc) rs.length (qg Rk.c rs) :: .row 9 1 (.slice t2.fo t2.fs.length t2.fc) t2.fs.length (E.strC t2.fs) :: .row 4 1 (.slice t2.mo t2.ms.length t2.mc) t2.ms.length (E.boolC t2.ms) :: .row 33 7 (.slice (some ⟨g83, 0, none⟩) 1 1) 1 (qg Ty.c [t2]) :: .obj g2 (.cells #[.string u.nm, .int .i64 u.par, .slice u.fo u.fs.length u.fc, .slice u.mo u.ms.length u.mc, .bool u.sl, .bool u.op, .string u.ui] 33) :: .obj b (.cells #[.slice so87 ((ts ++ [t2]).length) ca88, .slice ro rs.length rc] 73) :: .row 33 7 (.slice so87 ((ts ++ [t2]).length) ca88) ((ts ++ [t2]).length) (qg Ty.c (ts ++ [t2])) :: Y) := M.bring 6 rfl rfl
    replace M : Mg w0 w89 (.row 33 7 (.slice so87 ((ts ++ [t2]).length) ca88) ((ts ++ [t2]).length) (qg Ty.c (ts ++ [t2])) :: .row 86 2 (.slice ro rs.length rc) rs.length (qg Rk.c rs) :: .row 9 1 (.slice t2.fo t2.fs.length t2.fc) t2.fs.length (E.strC t2.fs) :: .row 4 1 (.slice t2.mo t2.ms.length t2.mc) t2.ms.length (E.boolC t2.ms) :: .row 33 7 (.slice (some ⟨g83, 0, none⟩) 1 1) 1 (qg Ty.c [t2]) :: .obj g2 (.cells #[.string u.nm, .int .i64 u.par, .slice u.fo u.fs.length u.fc, .slice u.mo u.ms.length u.mc, .bool u.sl, .bool u.op, .string u.ui] 33) :: .obj b (.cells #[.slice so87 ((ts ++ [t2]).length) ca88, .slice ro rs.length rc] 73) :: Y) := M.bring 6 rfl rfl
    replace M : Mg w0 w89 (.obj b (.cells #[.slice so87 ((ts ++ [t2]).length) ca88, .slice ro rs.length rc] 73) :: .row 33 7 (.slice so87 ((ts ++ [t2]).length) ca88) ((ts ++ [t2]).length) (qg Ty.c (ts ++ [t2])) :: .row 86 2 (.slice ro rs.length rc) rs.length (qg Rk.c rs) :: .row 9 1 (.slice t2.fo t2.fs.length t2.fc) t2.fs.length (E.strC t2.fs) :: .row 4 1 (.slice t2.mo t2.ms.length t2.mc) t2.ms.length (E.boolC t2.ms) :: .row 33 7 (.slice (some ⟨g83, 0, none⟩) 1 1) 1 (qg Ty.c [t2]) :: .obj g2 (.cells #[.string u.nm, .int .i64 u.par, .slice u.fo u.fs.length u.fc, .slice u.mo u.ms.length u.mc, .bool u.sl, .bool u.op, .string u.ui] 33) :: Y) := M.bring 6 rfl rfl
    replace M : Mg w0 w89 (.obj b (.cells #[.slice so87 ((ts ++ [t2]).length) ca88, .slice ro rs.length rc] 73) :: .row 33 7 (.slice so87 ((ts ++ [t2]).length) ca88) ((ts ++ [t2]).length) (qg Ty.c (ts ++ [t2])) :: .row 86 2 (.slice ro rs.length rc) rs.length (qg Rk.c rs) :: .row 9 1 (.slice t2.fo t2.fs.length t2.fc) t2.fs.length (E.strC t2.fs) :: .row 4 1 (.slice t2.mo t2.ms.length t2.mc) t2.ms.length (E.boolC t2.ms) :: Y) := by
     have h9 := M.sub (cc (cc (cc (cc (cc (cn (cn (.refl _))))))))
     exact h9
    exact ⟨t2, so87, ca88, by rw [show (ts ++ [t2]).length - 1 = ts.length by omega], hk2, M⟩
   ·
    refine zl A 6 rfl rfl rfl rfl (qx rfl rfl (fun w => by kernel_rfl)) (jo (hU _ (M.dropn 4)) hul hum hz1 hz2 huz) ?_
    rintro _ w92 ⟨t2, rfl, hk2, hM91⟩
    replace M : Mg w0 w92 (.row 9 1 (.slice t2.fo t2.fs.length t2.fc) t2.fs.length (E.strC t2.fs) :: .row 4 1 (.slice t2.mo t2.ms.length t2.mc) t2.ms.length (E.boolC t2.ms) :: .obj g2 (.cells #[.string u.nm, .int .i64 u.par, .slice u.fo u.fs.length u.fc, .slice u.mo u.ms.length u.mc, .bool u.sl, .bool u.op, .string u.ui] 33) :: .obj b (.cells #[.slice tz ts.length tc, .slice ro rs.length rc] 73) :: .row 33 7 (.slice tz ts.length tc) ts.length (qg Ty.c ts) :: .row 86 2 (.slice ro rs.length rc) rs.length (qg Rk.c rs) :: Y) := (M.both hM91 (qi (by simp) (qi (by simp) (qi (by simp) (qi (by simp) hY)))) (qi (by simp) (qi (by simp) (qk qp))))
    refine ⟨_, rfl, (M.sub (cn (cn (cn (cn (cn (cn (List.nil_sublist _)))))))), ?_⟩
    intro a A
    refine xd (rs := [4, 7]) (by kernel_rfl) (by simp) ⟨?_, ?_, trivial⟩
    ·
     refine xh A 4 rfl rfl rfl rfl (qj M RcD_is1_26 rfl 3 rfl rfl) (M.sub (cn (cn (cn (cn (cn (cn (List.nil_sublist _)))))))) λa A↦?_
     refine qs (by kernel_rfl) (vr (e := 33) (sz := 7) (m := 1) (vs := qg Ty.c [t2]) A M 7 rfl rfl rfl rfl (qz rfl (by kernel_rfl)) rfl rfl (.inl (by decide)) ?_)
     intro g93 w94 M
     refine ⟨(M.sub (cn (cn (cn (cn (cn (cn (cn (List.nil_sublist _))))))))), ?_⟩
     intro a A
     refine qs (by kernel_rfl) (js (e := 33) (sz := 7) (k := 5) (q := ts.length) (m := 1) (xs := qg Ty.c ts) (news := qg Ty.c [t2]) (L' := fun v95 => (.row 33 7 (.slice (some ⟨g93, 0, none⟩) 1 1) 1 (qg Ty.c [t2]) :: .row 9 1 (.slice t2.fo t2.fs.length t2.fc) t2.fs.length (E.strC t2.fs) :: .row 4 1 (.slice t2.mo t2.ms.length t2.mc) t2.ms.length (E.boolC t2.ms) :: .obj g2 (.cells #[.string u.nm, .int .i64 u.par, .slice u.fo u.fs.length u.fc, .slice u.mo u.ms.length u.mc, .bool u.sl, .bool u.op, .string u.ui] 33) :: .obj b (.cells #[.slice tz ts.length tc, .slice ro rs.length rc] 73) :: .row 33 7 (v95) (ts.length + 1) (qg Ty.c ts ++ qg Ty.c [t2]) :: .row 86 2 (.slice ro rs.length rc) rs.length (qg Rk.c rs) :: Y)) A 8 rfl rfl rfl rfl (jq (z := .agg #[.string (⟨#[]⟩), .int .i64 0, .slice none 0 0, .slice none 0 0, .bool false, .bool false, .string (⟨#[]⟩)]) (sz := 7) (by_ := 96) Tryz.underlying26 (by kernel_rfl) rfl rfl rfl M 5 rfl rfl rfl rfl (rc_own (M.has 0 rfl)) (vv _) (by omega)) (fun _ => rfl) ?_)
     intro v95 w96 M
     replace M : Mg w0 w96 (.row 33 7 (.slice (some ⟨g93, 0, none⟩) 1 1) 1 (qg Ty.c [t2]) :: .row 9 1 (.slice t2.fo t2.fs.length t2.fc) t2.fs.length (E.strC t2.fs) :: .row 4 1 (.slice t2.mo t2.ms.length t2.mc) t2.ms.length (E.boolC t2.ms) :: .obj g2 (.cells #[.string u.nm, .int .i64 u.par, .slice u.fo u.fs.length u.fc, .slice u.mo u.ms.length u.mc, .bool u.sl, .bool u.op, .string u.ui] 33) :: .obj b (.cells #[.slice tz ts.length tc, .slice ro rs.length rc] 73) :: .row 33 7 (v95) ((ts ++ [t2]).length) (qg Ty.c (ts ++ [t2])) :: .row 86 2 (.slice ro rs.length rc) rs.length (qg Rk.c rs) :: Y) := by
      have h9 := M
      rw [← zw] at h9
      rw [List.length_append]
      exact h9
     obtain ⟨so97, ca98, rfl⟩ := zn (M.has 5 rfl)
     have hln : (ts ++ [t2]).length = ts.length + 1 := by rw [List.length_append]; rfl
     refine ⟨(M.sub (cn (cn (cn (cn (cn (cn (cn (List.nil_sublist _))))))))), ?_⟩
     intro a A
     refine qf A 9 rfl rfl rfl rfl hP (M.sub (cn (cn (cn (cn (cn (cn (cn (List.nil_sublist _))))))))) (fun w1 M => ql rfl) λa A↦?_
     refine qf (v := .pointer (some ⟨b, 0, none⟩)) A 10 rfl rfl rfl rfl hP (M.sub (cn (cn (cn (cn (cn (cn (cn (List.nil_sublist _))))))))) (fun w1 M => qb RcD_fld_73_0 rfl rfl) λa A↦?_
     refine qs (by kernel_rfl) (jx (us := [.slice so97 ((ts ++ [t2]).length) ca98, .slice ro rs.length rc]) (L' := (.row 33 7 (.slice (some ⟨g93, 0, none⟩) 1 1) 1 (qg Ty.c [t2]) :: .row 9 1 (.slice t2.fo t2.fs.length t2.fc) t2.fs.length (E.strC t2.fs) :: .row 4 1 (.slice t2.mo t2.ms.length t2.mc) t2.ms.length (E.boolC t2.ms) :: .obj g2 (.cells #[.string u.nm, .int .i64 u.par, .slice u.fo u.fs.length u.fc, .slice u.mo u.ms.length u.mc, .bool u.sl, .bool u.op, .string u.ui] 33) :: .obj b (.cells #[.slice so97 ((ts ++ [t2]).length) ca98, .slice ro rs.length rc] 73) :: .row 33 7 (.slice so97 ((ts ++ [t2]).length) ca98) ((ts ++ [t2]).length) (qg Ty.c (ts ++ [t2])) :: .row 86 2 (.slice ro rs.length rc) rs.length (qg Rk.c rs) :: Y)) A M 11 rfl rfl rfl (qy rfl rfl rfl (by kernel_rfl) M 4 rfl rfl rfl) 4 rfl rfl rfl ?_)
     intro w99 M
     refine ⟨(M.sub (cn (cn (cn (cn (cn (cn (cn (List.nil_sublist _))))))))), ?_⟩
     refine zi (by kernel_rfl) ?_
     refine hK70 _ _ (wsk fun K100 hK100 => wrl (sdm A λa A↦?_))
     refine sdo A (ql rfl) λa A↦?_
     refine sdo (v := .pointer (some ⟨b, 0, none⟩)) A (qb RcD_fld_73_0 rfl rfl) λa A↦?_
     refine sdo A (qj M RcD_is1_26 rfl 4 rfl rfl) λa A↦?_
     refine sdo A (qr Tryz.underlying26 rfl) λa A↦?_
     refine sdo (v := .int .i64 ((((ts ++ [t2]).length - 1 : Nat) : Int))) A (qh rfl rfl (fun w => (jw (je (by omega) (by omega)) w).trans (by rw [show ((((ts ++ [t2]).length : Nat) : Int) - 1 : Int) = (((ts ++ [t2]).length - 1 : Nat) : Int) from by omega]))) λa A↦?_
     iterate 2 refine sda A λa A↦?_
     refine qa (hK100 _ _ (wp_ret (hret _ _ (en2 A rfl (qe rfl) (qe rfl) ?_))))
     replace M : Mg w0 w99 (.row 4 1 (.slice t2.mo t2.ms.length t2.mc) t2.ms.length (E.boolC t2.ms) :: .row 33 7 (.slice (some ⟨g93, 0, none⟩) 1 1) 1 (qg Ty.c [t2]) :: .row 9 1 (.slice t2.fo t2.fs.length t2.fc) t2.fs.length (E.strC t2.fs) :: .obj g2 (.cells #[.string u.nm, .int .i64 u.par, .slice u.fo u.fs.length u.fc, .slice u.mo u.ms.length u.mc, .bool u.sl, .bool u.op, .string u.ui] 33) :: .obj b (.cells #[.slice so97 ((ts ++ [t2]).length) ca98, .slice ro rs.length rc] 73) :: .row 33 7 (.slice so97 ((ts ++ [t2]).length) ca98) ((ts ++ [t2]).length) (qg Ty.c (ts ++ [t2])) :: .row 86 2 (.slice ro rs.length rc) rs.length (qg Rk.c rs) :: Y) := M.bring 2 rfl rfl
     replace M : Mg w0 w99 (.row 9 1 (.slice t2.fo t2.fs.length t2.fc) t2.fs.length (E.strC t2.fs) :: .row 4 1 (.slice t2.mo t2.ms.length t2.mc) t2.ms.length (E.boolC t2.ms) :: .row 33 7 (.slice (some ⟨g93, 0, none⟩) 1 1) 1 (qg Ty.c [t2]) :: .obj g2 (.cells #[.string u.nm, .int .i64 u.par, .slice u.fo u.fs.length u.fc, .slice u.mo u.ms.length u.mc, .bool u.sl, .bool u.op, .string u.ui] 33) :: .obj b (.cells #[.slice so97 ((ts ++ [t2]).length) ca98, .slice ro rs.length rc] 73) :: .row 33 7 (.slice so97 ((ts ++ [t2]).length) ca98) ((ts ++ [t2]).length) (qg Ty.c (ts ++ [t2])) :: .row 86 2 (.slice ro rs.length rc) rs.length (qg Rk.c rs) :: Y) := M.bring 2 rfl rfl
     replace M : Mg w0 w99 (.row 86 2 (.slice ro rs.length rc) rs.length (qg Rk.c rs) :: .row 9 1 (.slice t2.fo t2.fs.length t2.fc) t2.fs.length (E.strC t2.fs) :: .row 4 1 (.slice t2.mo t2.ms.length t2.mc) t2.ms.length (E.boolC t2.ms) :: .row 33 7 (.slice (some ⟨g93, 0, none⟩) 1 1) 1 (qg Ty.c [t2]) :: .obj g2 (.cells #[.string u.nm, .int .i64 u.par, .slice u.fo u.fs.length u.fc, .slice u.mo u.ms.length u.mc, .bool u.sl, .bool u.op, .string u.ui] 33) :: .obj b (.cells #[.slice so97 ((ts ++ [t2]).length) ca98, .slice ro rs.length rc] 73) :: .row 33 7 (.slice so97 ((ts ++ [t2]).length) ca98) ((ts ++ [t2]).length) (qg Ty.c (ts ++ [t2])) :: Y) := M.bring 6 rfl rfl
     replace M : Mg w0 w99 (.row 33 7 (.slice so97 ((ts ++ [t2]).length) ca98) ((ts ++ [t2]).length) (qg Ty.c (ts ++ [t2])) :: .row 86 2 (.slice ro rs.length rc) rs.length (qg Rk.c rs) :: .row 9 1 (.slice t2.fo t2.fs.length t2.fc) t2.fs.length (E.strC t2.fs) :: .row 4 1 (.slice t2.mo t2.ms.length t2.mc) t2.ms.length (E.boolC t2.ms) :: .row 33 7 (.slice (some ⟨g93, 0, none⟩) 1 1) 1 (qg Ty.c [t2]) :: .obj g2 (.cells #[.string u.nm, .int .i64 u.par, .slice u.fo u.fs.length u.fc, .slice u.mo u.ms.length u.mc, .bool u.sl, .bool u.op, .string u.ui] 33) :: .obj b (.cells #[.slice so97 ((ts ++ [t2]).length) ca98, .slice ro rs.length rc] 73) :: Y) := M.bring 6 rfl rfl
     replace M : Mg w0 w99 (.obj b (.cells #[.slice so97 ((ts ++ [t2]).length) ca98, .slice ro rs.length rc] 73) :: .row 33 7 (.slice so97 ((ts ++ [t2]).length) ca98) ((ts ++ [t2]).length) (qg Ty.c (ts ++ [t2])) :: .row 86 2 (.slice ro rs.length rc) rs.length (qg Rk.c rs) :: .row 9 1 (.slice t2.fo t2.fs.length t2.fc) t2.fs.length (E.strC t2.fs) :: .row 4 1 (.slice t2.mo t2.ms.length t2.mc) t2.ms.length (E.boolC t2.ms) :: .row 33 7 (.slice (some ⟨g93, 0, none⟩) 1 1) 1 (qg Ty.c [t2]) :: .obj g2 (.cells #[.string u.nm, .int .i64 u.par, .slice u.fo u.fs.length u.fc, .slice u.mo u.ms.length u.mc, .bool u.sl, .bool u.op, .string u.ui] 33) :: Y) := M.bring 6 rfl rfl
     replace M : Mg w0 w99 (.obj b (.cells #[.slice so97 ((ts ++ [t2]).length) ca98, .slice ro rs.length rc] 73) :: .row 33 7 (.slice so97 ((ts ++ [t2]).length) ca98) ((ts ++ [t2]).length) (qg Ty.c (ts ++ [t2])) :: .row 86 2 (.slice ro rs.length rc) rs.length (qg Rk.c rs) :: .row 9 1 (.slice t2.fo t2.fs.length t2.fc) t2.fs.length (E.strC t2.fs) :: .row 4 1 (.slice t2.mo t2.ms.length t2.mc) t2.ms.length (E.boolC t2.ms) :: Y) := by
      have h9 := M.sub (cc (cc (cc (cc (cc (cn (cn (.refl _))))))))
      exact h9
     exact ⟨t2, so97, ca98, by rw [show (ts ++ [t2]).length - 1 = ts.length by omega], hk2, M⟩
    ·
     refine vr (e := 33) (sz := 7) (m := 1) (vs := qg Ty.c [t2]) A M 7 rfl rfl rfl rfl (qz rfl (by kernel_rfl)) rfl rfl (.inl (by decide)) ?_
     intro g101 w102 M
     refine ⟨(M.sub (cn (cn (cn (cn (cn (cn (cn (List.nil_sublist _))))))))), ?_⟩
     intro a A
     refine qs (by kernel_rfl) (xh A 4 rfl rfl rfl rfl (qj M RcD_is1_26 rfl 4 rfl rfl) (M.sub (cn (cn (cn (cn (cn (cn (cn (List.nil_sublist _))))))))) ?_)
     intro a A
     refine qs (by kernel_rfl) (js (e := 33) (sz := 7) (k := 5) (q := ts.length) (m := 1) (xs := qg Ty.c ts) (news := qg Ty.c [t2]) (L' := fun v103 => (.row 33 7 (.slice (some ⟨g101, 0, none⟩) 1 1) 1 (qg Ty.c [t2]) :: .row 9 1 (.slice t2.fo t2.fs.length t2.fc) t2.fs.length (E.strC t2.fs) :: .row 4 1 (.slice t2.mo t2.ms.length t2.mc) t2.ms.length (E.boolC t2.ms) :: .obj g2 (.cells #[.string u.nm, .int .i64 u.par, .slice u.fo u.fs.length u.fc, .slice u.mo u.ms.length u.mc, .bool u.sl, .bool u.op, .string u.ui] 33) :: .obj b (.cells #[.slice tz ts.length tc, .slice ro rs.length rc] 73) :: .row 33 7 (v103) (ts.length + 1) (qg Ty.c ts ++ qg Ty.c [t2]) :: .row 86 2 (.slice ro rs.length rc) rs.length (qg Rk.c rs) :: Y)) A 8 rfl rfl rfl rfl (jq (z := .agg #[.string (⟨#[]⟩), .int .i64 0, .slice none 0 0, .slice none 0 0, .bool false, .bool false, .string (⟨#[]⟩)]) (sz := 7) (by_ := 96) Tryz.underlying26 (by kernel_rfl) rfl rfl rfl M 5 rfl rfl rfl rfl (rc_own (M.has 0 rfl)) (vv _) (by omega)) (fun _ => rfl) ?_)
     intro v103 w104 M
     replace M : Mg w0 w104 (.row 33 7 (.slice (some ⟨g101, 0, none⟩) 1 1) 1 (qg Ty.c [t2]) :: .row 9 1 (.slice t2.fo t2.fs.length t2.fc) t2.fs.length (E.strC t2.fs) :: .row 4 1 (.slice t2.mo t2.ms.length t2.mc) t2.ms.length (E.boolC t2.ms) :: .obj g2 (.cells #[.string u.nm, .int .i64 u.par, .slice u.fo u.fs.length u.fc, .slice u.mo u.ms.length u.mc, .bool u.sl, .bool u.op, .string u.ui] 33) :: .obj b (.cells #[.slice tz ts.length tc, .slice ro rs.length rc] 73) :: .row 33 7 (v103) ((ts ++ [t2]).length) (qg Ty.c (ts ++ [t2])) :: .row 86 2 (.slice ro rs.length rc) rs.length (qg Rk.c rs) :: Y) := by
      have h9 := M
      rw [← zw] at h9
      rw [List.length_append]
      exact h9
     obtain ⟨so105, ca106, rfl⟩ := zn (M.has 5 rfl)
     have hln : (ts ++ [t2]).length = ts.length + 1 := by rw [List.length_append]; rfl
     refine ⟨(M.sub (cn (cn (cn (cn (cn (cn (cn (List.nil_sublist _))))))))), ?_⟩
     intro a A
     refine qf A 9 rfl rfl rfl rfl hP (M.sub (cn (cn (cn (cn (cn (cn (cn (List.nil_sublist _))))))))) (fun w1 M => ql rfl) λa A↦?_
     refine qf (v := .pointer (some ⟨b, 0, none⟩)) A 10 rfl rfl rfl rfl hP (M.sub (cn (cn (cn (cn (cn (cn (cn (List.nil_sublist _))))))))) (fun w1 M => qb RcD_fld_73_0 rfl rfl) λa A↦?_
     refine qs (by kernel_rfl) (jx (us := [.slice so105 ((ts ++ [t2]).length) ca106, .slice ro rs.length rc]) (L' := (.row 33 7 (.slice (some ⟨g101, 0, none⟩) 1 1) 1 (qg Ty.c [t2]) :: .row 9 1 (.slice t2.fo t2.fs.length t2.fc) t2.fs.length (E.strC t2.fs) :: .row 4 1 (.slice t2.mo t2.ms.length t2.mc) t2.ms.length (E.boolC t2.ms) :: .obj g2 (.cells #[.string u.nm, .int .i64 u.par, .slice u.fo u.fs.length u.fc, .slice u.mo u.ms.length u.mc, .bool u.sl, .bool u.op, .string u.ui] 33) :: .obj b (.cells #[.slice so105 ((ts ++ [t2]).length) ca106, .slice ro rs.length rc] 73) :: .row 33 7 (.slice so105 ((ts ++ [t2]).length) ca106) ((ts ++ [t2]).length) (qg Ty.c (ts ++ [t2])) :: .row 86 2 (.slice ro rs.length rc) rs.length (qg Rk.c rs) :: Y)) A M 11 rfl rfl rfl (qy rfl rfl rfl (by kernel_rfl) M 4 rfl rfl rfl) 4 rfl rfl rfl ?_)
     intro w107 M
     refine ⟨(M.sub (cn (cn (cn (cn (cn (cn (cn (List.nil_sublist _))))))))), ?_⟩
     refine zi (by kernel_rfl) ?_
     refine hK70 _ _ (wsk fun K108 hK108 => wrl (sdm A λa A↦?_))
     refine sdo A (ql rfl) λa A↦?_
     refine sdo (v := .pointer (some ⟨b, 0, none⟩)) A (qb RcD_fld_73_0 rfl rfl) λa A↦?_
     refine sdo A (qj M RcD_is1_26 rfl 4 rfl rfl) λa A↦?_
     refine sdo A (qr Tryz.underlying26 rfl) λa A↦?_
     refine sdo (v := .int .i64 ((((ts ++ [t2]).length - 1 : Nat) : Int))) A (qh rfl rfl (fun w => (jw (je (by omega) (by omega)) w).trans (by rw [show ((((ts ++ [t2]).length : Nat) : Int) - 1 : Int) = (((ts ++ [t2]).length - 1 : Nat) : Int) from by omega]))) λa A↦?_
     iterate 2 refine sda A λa A↦?_
     refine qa (hK108 _ _ (wp_ret (hret _ _ (en2 A rfl (qe rfl) (qe rfl) ?_))))
     replace M : Mg w0 w107 (.row 4 1 (.slice t2.mo t2.ms.length t2.mc) t2.ms.length (E.boolC t2.ms) :: .row 33 7 (.slice (some ⟨g101, 0, none⟩) 1 1) 1 (qg Ty.c [t2]) :: .row 9 1 (.slice t2.fo t2.fs.length t2.fc) t2.fs.length (E.strC t2.fs) :: .obj g2 (.cells #[.string u.nm, .int .i64 u.par, .slice u.fo u.fs.length u.fc, .slice u.mo u.ms.length u.mc, .bool u.sl, .bool u.op, .string u.ui] 33) :: .obj b (.cells #[.slice so105 ((ts ++ [t2]).length) ca106, .slice ro rs.length rc] 73) :: .row 33 7 (.slice so105 ((ts ++ [t2]).length) ca106) ((ts ++ [t2]).length) (qg Ty.c (ts ++ [t2])) :: .row 86 2 (.slice ro rs.length rc) rs.length (qg Rk.c rs) :: Y) := M.bring 2 rfl rfl
     replace M : Mg w0 w107 (.row 9 1 (.slice t2.fo t2.fs.length t2.fc) t2.fs.length (E.strC t2.fs) :: .row 4 1 (.slice t2.mo t2.ms.length t2.mc) t2.ms.length (E.boolC t2.ms) :: .row 33 7 (.slice (some ⟨g101, 0, none⟩) 1 1) 1 (qg Ty.c [t2]) :: .obj g2 (.cells #[.string u.nm, .int .i64 u.par, .slice u.fo u.fs.length u.fc, .slice u.mo u.ms.length u.mc, .bool u.sl, .bool u.op, .string u.ui] 33) :: .obj b (.cells #[.slice so105 ((ts ++ [t2]).length) ca106, .slice ro rs.length rc] 73) :: .row 33 7 (.slice so105 ((ts ++ [t2]).length) ca106) ((ts ++ [t2]).length) (qg Ty.c (ts ++ [t2])) :: .row 86 2 (.slice ro rs.length rc) rs.length (qg Rk.c rs) :: Y) := M.bring 2 rfl rfl
     replace M : Mg w0 w107 (.row 86 2 (.slice ro rs.length rc) rs.length (qg Rk.c rs) :: .row 9 1 (.slice t2.fo t2.fs.length t2.fc) t2.fs.length (E.strC t2.fs) :: .row 4 1 (.slice t2.mo t2.ms.length t2.mc) t2.ms.length (E.boolC t2.ms) :: .row 33 7 (.slice (some ⟨g101, 0, none⟩) 1 1) 1 (qg Ty.c [t2]) :: .obj g2 (.cells #[.string u.nm, .int .i64 u.par, .slice u.fo u.fs.length u.fc, .slice u.mo u.ms.length u.mc, .bool u.sl, .bool u.op, .string u.ui] 33) :: .obj b (.cells #[.slice so105 ((ts ++ [t2]).length) ca106, .slice ro rs.length rc] 73) :: .row 33 7 (.slice so105 ((ts ++ [t2]).length) ca106) ((ts ++ [t2]).length) (qg Ty.c (ts ++ [t2])) :: Y) := M.bring 6 rfl rfl
     replace M : Mg w0 w107 (.row 33 7 (.slice so105 ((ts ++ [t2]).length) ca106) ((ts ++ [t2]).length) (qg Ty.c (ts ++ [t2])) :: .row 86 2 (.slice ro rs.length rc) rs.length (qg Rk.c rs) :: .row 9 1 (.slice t2.fo t2.fs.length t2.fc) t2.fs.length (E.strC t2.fs) :: .row 4 1 (.slice t2.mo t2.ms.length t2.mc) t2.ms.length (E.boolC t2.ms) :: .row 33 7 (.slice (some ⟨g101, 0, none⟩) 1 1) 1 (qg Ty.c [t2]) :: .obj g2 (.cells #[.string u.nm, .int .i64 u.par, .slice u.fo u.fs.length u.fc, .slice u.mo u.ms.length u.mc, .bool u.sl, .bool u.op, .string u.ui] 33) :: .obj b (.cells #[.slice so105 ((ts ++ [t2]).length) ca106, .slice ro rs.length rc] 73) :: Y) := M.bring 6 rfl rfl
     replace M : Mg w0 w107 (.obj b (.cells #[.slice so105 ((ts ++ [t2]).length) ca106, .slice ro rs.length rc] 73) :: .row 33 7 (.slice so105 ((ts ++ [t2]).length) ca106) ((ts ++ [t2]).length) (qg Ty.c (ts ++ [t2])) :: .row 86 2 (.slice ro rs.length rc) rs.length (qg Rk.c rs) :: .row 9 1 (.slice t2.fo t2.fs.length t2.fc) t2.fs.length (E.strC t2.fs) :: .row 4 1 (.slice t2.mo t2.ms.length t2.mc) t2.ms.length (E.boolC t2.ms) :: .row 33 7 (.slice (some ⟨g101, 0, none⟩) 1 1) 1 (qg Ty.c [t2]) :: .obj g2 (.cells #[.string u.nm, .int .i64 u.par, .slice u.fo u.fs.length u.fc, .slice u.mo u.ms.length u.mc, .bool u.sl, .bool u.op, .string u.ui] 33) :: Y) := M.bring 6 rfl rfl
     replace M : Mg w0 w107 (.obj b (.cells #[.slice so105 ((ts ++ [t2]).length) ca106, .slice ro rs.length rc] 73) :: .row 33 7 (.slice so105 ((ts ++ [t2]).length) ca106) ((ts ++ [t2]).length) (qg Ty.c (ts ++ [t2])) :: .row 86 2 (.slice ro rs.length rc) rs.length (qg Rk.c rs) :: .row 9 1 (.slice t2.fo t2.fs.length t2.fc) t2.fs.length (E.strC t2.fs) :: .row 4 1 (.slice t2.mo t2.ms.length t2.mc) t2.ms.length (E.boolC t2.ms) :: Y) := by
      have h9 := M.sub (cc (cc (cc (cc (cc (cn (cn (.refl _))))))))
      exact h9
     exact ⟨t2, so105, ca106, by rw [show (ts ++ [t2]).length - 1 = ts.length by omega], hk2, M⟩
theorem qbc {w : World} {t : Dt} (ht : t.rd w) (hT : Tabs8 w) : Calls Tryz.prog 34 #[.agg (t.d.cells t.ts.length).toArray] w fun e w' => e = .returned (.bool (!jp ja t.tr)) ∧ Below w.heap.size w w' := by
 have M : Mg w w ([]) := Mg.start w
 refine qm (l := [(0, .agg (t.d.cells t.ts.length).toArray)]) Tryz.func34 rfl Tryz.ntmps34 rfl rfl ?_
 intro Q hret hnorm hP a A
 refine wsk fun K1 hK1 => wrl (zp (vs := (t.d.cells t.ts.length)) (t := 42) A M rfl rfl rfl pg (zh rfl rfl) (by decide) ?_)
 intro g2 w3 M a A
 refine sda A λa A↦?_
 refine qa (hK1 _ _ (wsk fun K4 hK4 => wrl (sdo A (zu M RcD_isS_42 rfl 0 rfl (cs := (t.d.cells t.ts.length)) rfl rfl) λa A↦?_)))
 rcases tf (jp ja t.tr) with hb5 | hb5
 ·
  refine gcl A M (ef rfl rfl) ((hb5 ▸ sound_any (t := t) (Dt.keep M.bel _ ht) (hT.below M.bel))) fun w7 hb6 M a A => ?_
  refine sdo (v := .bool false) A (zv rfl ji) λa A↦?_
  refine sda A λa A↦?_
  refine qa (hK4 _ _ (wp_ret (hret _ _ (en1 A rfl (qe rfl) ?_))))
  exact ⟨by simp_all, M.bel⟩
 ·
  refine gcl A M (ef rfl rfl) ((hb5 ▸ sound_any (t := t) (Dt.keep M.bel _ ht) (hT.below M.bel))) fun w9 hb8 M a A => ?_
  refine sdo (v := .bool true) A (zv rfl ji) λa A↦?_
  refine sda A λa A↦?_
  refine qa (hK4 _ _ (wp_ret (hret _ _ (en1 A rfl (qe rfl) ?_))))
  exact ⟨by simp_all, M.bel⟩
theorem asks_un {w : World} {ts : List Dt} (hD : ∀ t ∈ ts, t.rd w) (hT : Tabs8 w) : Asks Tryz.prog 34 [] w ts (fun t => !jp ja t.tr) := ⟨fun us w => by kernel_rfl, fun t w1 ht hb => qbc (Dt.keep hb _ (hD t ht)) (hT.below hb)⟩
theorem any_all (vs : List Dt) : (vs.any fun t => !jp ja t.tr) = !(vs.map Dt.tr).all (jp ja) := by
 induction vs with
 | nil => rfl
 | cons t ts ih => rw [List.any_cons, List.map_cons, List.all_cons, ih, Bool.not_and]
theorem vx {w : World} {so : Option Addr} {ca : Nat} {vs : List Dt} (hR : Rt w so vs) (hD : ∀ t ∈ vs, t.rd w) (hl : vs.length ≤ 1000000000) (hT : Tabs8 w) {b : Bool} (h : (vs.map Dt.tr).all (jp ja) = b) : Calls Tryz.prog 33 #[.slice so vs.length ca, .func (.func 34) #[] #[]] w fun e w' => e = .returned (.bool (!b)) ∧ Below w.heap.size w w' := by
 have := qec (ca := ca) (cs := []) hR hD hl (asks_un hD hT)
 rw [any_all, h] at this
 exact this
set_option maxHeartbeats 1000000 in
theorem make_ok {w0 w : World} {b tc rc : Nat} {tz ro : Option Addr} {ts : List Ty} {rs : List Rk} {Y : List Ck} (hY : jb Y) (hW : WS (ts.map Ty.k) (rs.map Rk.k)) (hsr : ∀ w1, Mg w0 w1 (.obj b (.cells #[.slice tz ts.length tc, .slice ro rs.length rc] 73) :: .row 33 7 (.slice tz ts.length tc) ts.length (qg Ty.c ts) :: .row 86 2 (.slice ro rs.length rc) rs.length (qg Rk.c rs) :: Y) → SR w1 b tz tc ts ro rc rs) (hM0 : Mg w0 w (.obj b (.cells #[.slice tz ts.length tc, .slice ro rs.length rc] 73) :: .row 33 7 (.slice tz ts.length tc) ts.length (qg Ty.c ts) :: .row 86 2 (.slice ro rs.length rc) rs.length (qg Rk.c rs) :: Y)) {vo : Option Addr} {vc : Nat} {vs : List Dt} (hV : ∀ w1, Mg w0 w1 Y → Rt w1 vo vs ∧ ∀ d ∈ vs, d.rd w1) (hvb : Tr.bulks (vs.map Dt.tr) ≤ 1000000000) (hT : ∀ w1, Mg w0 w1 Y → Tabs8 w1) {t : Int} (hok : okT ts.length t = true) (hcn : vs.length = cnt (ts.map Ty.k) t) (hso : (vs.map Dt.tr).all (jp ja) = true) (hn : rs.length < 20000) : Calls Tryz.prog 10 #[.pointer (some ⟨b, 0, none⟩), .int .i64 t, .slice vo vs.length vc] w fun e w' => ∃ (us : List Dt) (so6 : Option Addr) (ca6 : Nat) (ro' : Option Addr) (rc' : Nat) (F : List Ck), e = .returned (.tuple #[.int .i64 ((rs.length : Nat) : Int), .int .i64 0]) ∧ (us.map Dt.tr = vs.map Dt.tr ∧ (∀ d ∈ us, Lives F d) ∧ jb F) ∧ Mg w0 w' (.obj b (.cells #[.slice tz ts.length tc, .slice ro' ((rs ++ [(Rk.mk t.toNat so6 ca6 us)]).length) rc'] 73) :: .row 33 7 (.slice tz ts.length tc) ts.length (qg Ty.c ts) :: .row 86 2 (.slice ro' ((rs ++ [(Rk.mk t.toNat so6 ca6 us)]).length) rc') ((rs ++ [(Rk.mk t.toNat so6 ca6 us)]).length) (qg Rk.c (rs ++ [(Rk.mk t.toNat so6 ca6 us)])) :: .row 42 11 (.slice so6 us.length ca6) us.length (cellsOf us) :: (F ++ Y)) := by
 have hkl := hW.kl
 have hrl := hW.rl
 rw [List.length_map] at hkl hrl
 have hvl := vg vs
 obtain ⟨ht0, ht1⟩ := kf hok
 have M : Mg w0 w (.obj b (.cells #[.slice tz ts.length tc, .slice ro rs.length rc] 73) :: .row 33 7 (.slice tz ts.length tc) ts.length (qg Ty.c ts) :: .row 86 2 (.slice ro rs.length rc) rs.length (qg Rk.c rs) :: Y) := hM0
 refine qm (l := [(0, .pointer (some ⟨b, 0, none⟩)), (1, .int .i64 t), (2, .slice vo vs.length vc)]) Tryz.func10 rfl Tryz.ntmps10 rfl rfl ?_
 intro Q hret hnorm hP a A
 refine wsk fun K1 hK1 => wrl ?_
 iterate 2 refine sda A λa A↦?_
 refine qa (hK1 _ _ (wsk fun K2 hK2 => wrl ?_))
 iterate 2 refine sdm A λa A↦?_
 refine gcl A M (ef rfl rfl) (vb (hsr _ ((show Mg _ _ (.obj b (.cells #[.slice tz ts.length tc, .slice ro rs.length rc] 73) :: .row 33 7 (.slice tz ts.length tc) ts.length (qg Ty.c ts) :: .row 86 2 (.slice ro rs.length rc) rs.length (qg Rk.c rs) :: Y) from (M.dropn 0)))) hW hok) fun w4 hb3 M a A => ?_
 refine sda A λa A↦?_
 refine qa (hK2 _ _ (wsk fun K5 hK5 => wp_block (wsk fun K6 hK6 => wrl (sdm A λa A↦?_))))
 refine sdo (v := .bool false) A (qh rfl rfl (fun w => by kernel_rfl)) λa A↦?_
 refine sda A λa A↦?_
 refine qa (hK6 _ _ (wp_cond_false (A.ev rfl) ?_))
 refine wsk fun K7 hK7 => wrl (sdm A λa A↦?_)
 refine sdo A (qr Tryz.underlying34 rfl) λa A↦?_
 iterate 2 refine sdm A λa A↦?_
 refine gcl A M (ef rfl rfl) (xk (hsr _ ((show Mg _ _ (.obj b (.cells #[.slice tz ts.length tc, .slice ro rs.length rc] 73) :: .row 33 7 (.slice tz ts.length tc) ts.length (qg Ty.c ts) :: .row 86 2 (.slice ro rs.length rc) rs.length (qg Rk.c rs) :: Y) from (M.dropn 0)))) hW (by omega) (by omega)) fun w9 hb8 M a A => ?_
 refine sdo (v := .bool false) A (qh rfl rfl (fun w => (jj w).trans (by rw [show ((((vs.length : Nat) : Int) != ((cnt (ts.map Ty.k) t : Nat) : Int))) = false from (by simp; omega)]))) λa A↦?_
 refine sda A λa A↦?_
 refine qa (hK7 _ _ (wp_cond_false (A.ev rfl) ?_))
 refine wsk fun K10 hK10 => wrl (sdm A λa A↦?_)
 refine gcl A M (ef rfl rfl) (vx (hV _ (M.dropn 3)).1 (hV _ (M.dropn 3)).2 (by omega) (hT _ (M.dropn 3)) hso) fun w12 hb11 M a A => ?_
 refine sda A λa A↦?_
 refine qa (hK10 _ _ (wp_cond_false (A.ev rfl) ?_))
 refine wsk fun K13 hK13 => wrl (sdm A λa A↦?_)
 refine sdo A (ql rfl) λa A↦?_
 refine sdo (v := .pointer (some ⟨b, 1, none⟩)) A (qb RcD_fld_73_1 rfl rfl) λa A↦?_
 refine sdo A (qj M RcD_is1_71 rfl 0 rfl rfl) λa A↦?_
 refine sdo A (qr Tryz.underlying71 rfl) λa A↦?_
 refine sdo (v := .bool false) A (qh rfl rfl (fun w => (zt w).trans (by rw [show (decide (20000 ≤ ((rs.length : Nat) : Int))) = false from (decide_eq_false (by omega))]))) λa A↦?_
 refine sda A λa A↦?_
 refine qa (hK13 _ _ (wp_cond_false (A.ev rfl) ?_))
 refine wp_skip (hK5 _ _ (wsk fun K14 hK14 => jm (S := fun w1 => Mg w0 w1 ([])) (by kernel_rfl) ?_))
 replace M := M.drew
 refine qf A 0 rfl rfl rfl rfl hP (M.sub (cn (cn (cn (List.nil_sublist _))))) (fun w1 M => qt rfl) λa A↦?_
 refine qf A 1 rfl rfl rfl rfl hP (M.sub (cn (cn (cn (List.nil_sublist _))))) (fun w1 M => qt rfl) λa A↦?_
 refine qf A 2 rfl rfl rfl rfl hP (M.sub (cn (cn (cn (List.nil_sublist _))))) (fun w1 M => ql rfl) λa A↦?_
 refine qf (v := .pointer (some ⟨b, 1, none⟩)) A 3 rfl rfl rfl rfl hP (M.sub (cn (cn (cn (List.nil_sublist _))))) (fun w1 M => qb RcD_fld_73_1 rfl rfl) λa A↦?_
 refine qf A 5 rfl rfl rfl rfl hP (M.sub (cn (cn (cn (List.nil_sublist _))))) (fun w1 M => qt rfl) λa A↦?_
 refine qf A 6 rfl rfl rfl rfl hP (M.sub (cn (cn (cn (List.nil_sublist _))))) (fun w1 M => qt rfl) λa A↦?_
 refine xd (rs := [4, 7]) (by kernel_rfl) (by simp) ⟨?_, ?_, trivial⟩
 ·
  refine xh A 4 rfl rfl rfl rfl (qj M RcD_is1_71 rfl 0 rfl rfl) (M.sub (cn (cn (cn (List.nil_sublist _))))) λa A↦?_
  refine qs (by kernel_rfl) (zl A 7 rfl rfl rfl rfl (qx rfl rfl (fun w => by kernel_rfl)) (yp (fun t _ => km t) (hV _ (M.dropn 3)).1 (hV _ (M.dropn 3)).2 hvb) ?_)
  rintro _ w16 ⟨v6, us, rfl, ⟨htr, hus⟩, hM15⟩
  obtain ⟨so6, ca6, rfl⟩ := zn (hM15.has 0 rfl)
  have hun : us.length = vs.length := by have := congrArg List.length htr; simpa using this
  have hLu : ∀ t ∈ us, Lives (others w12.drew w16 [.row 42 11 (.slice so6 us.length ca6) us.length (cellsOf us)]) t := fun t ht => kx (hus t ht).1 (Dt.at_mono (fun b9 hb9 => ⟨hb9.1, fun d hd => by rw [List.mem_singleton] at hd; subst hd; exact hb9.2⟩) _ (hus t ht).2)
  replace M : Mg w0 w16 (.row 42 11 (.slice so6 us.length ca6) us.length (cellsOf us) :: .obj b (.cells #[.slice tz ts.length tc, .slice ro rs.length rc] 73) :: .row 33 7 (.slice tz ts.length tc) ts.length (qg Ty.c ts) :: .row 86 2 (.slice ro rs.length rc) rs.length (qg Rk.c rs) :: (others w12.drew w16 [.row 42 11 (.slice so6 us.length ca6) us.length (cellsOf us)] ++ Y)) := M.data 3 (qi (by simp) (qi (by simp) (qi (by simp) hY))) hM15 (qi (by simp) (qk qp))
  refine ⟨_, rfl, (M.sub (cn (cn (cn (cn (List.nil_sublist _)))))), ?_⟩
  intro a A
  refine qf (v := .agg #[.int .i64 (((t.toNat : Nat) : Int)), .slice so6 us.length ca6]) A 8 rfl rfl rfl rfl hP (M.sub (cn (cn (cn (cn (List.nil_sublist _)))))) (fun w1 M => zk rfl (fun w => by rw [show ((t.toNat : Nat) : Int) = t by omega]; kernel_rfl)) λa A↦?_
  refine qs (by kernel_rfl) (vr (e := 86) (sz := 2) (m := 1) (vs := qg Rk.c [(Rk.mk t.toNat so6 ca6 us)]) A M 9 rfl rfl rfl rfl (qz rfl (by kernel_rfl)) rfl rfl (.inl (by decide)) ?_)
  intro g17 w18 M
  refine ⟨(M.sub (cn (cn (cn (cn (cn (List.nil_sublist _))))))), ?_⟩
  intro a A
  refine qs (by kernel_rfl) (js (e := 86) (sz := 2) (k := 4) (q := rs.length) (m := 1) (xs := qg Rk.c rs) (news := qg Rk.c [(Rk.mk t.toNat so6 ca6 us)]) (L' := fun v19 => (.row 86 2 (.slice (some ⟨g17, 0, none⟩) 1 1) 1 (qg Rk.c [(Rk.mk t.toNat so6 ca6 us)]) :: .row 42 11 (.slice so6 us.length ca6) us.length (cellsOf us) :: .obj b (.cells #[.slice tz ts.length tc, .slice ro rs.length rc] 73) :: .row 33 7 (.slice tz ts.length tc) ts.length (qg Ty.c ts) :: .row 86 2 (v19) (rs.length + 1) (qg Rk.c rs ++ qg Rk.c [(Rk.mk t.toNat so6 ca6 us)]) :: (others w12.drew w16 [.row 42 11 (.slice so6 us.length ca6) us.length (cellsOf us)] ++ Y))) A 10 rfl rfl rfl rfl (jq (z := .agg #[.int .i64 0, .slice none 0 0]) (sz := 2) (by_ := 32) Tryz.underlying71 (by kernel_rfl) rfl rfl rfl M 4 rfl rfl rfl rfl (rc_own (M.has 0 rfl)) (qic _) (by omega)) (fun _ => rfl) ?_)
  intro v19 w20 M
  replace M : Mg w0 w20 (.row 86 2 (.slice (some ⟨g17, 0, none⟩) 1 1) 1 (qg Rk.c [(Rk.mk t.toNat so6 ca6 us)]) :: .row 42 11 (.slice so6 us.length ca6) us.length (cellsOf us) :: .obj b (.cells #[.slice tz ts.length tc, .slice ro rs.length rc] 73) :: .row 33 7 (.slice tz ts.length tc) ts.length (qg Ty.c ts) :: .row 86 2 (v19) ((rs ++ [(Rk.mk t.toNat so6 ca6 us)]).length) (qg Rk.c (rs ++ [(Rk.mk t.toNat so6 ca6 us)])) :: (others w12.drew w16 [.row 42 11 (.slice so6 us.length ca6) us.length (cellsOf us)] ++ Y)) := by
   have h9 := M
   rw [← zw] at h9
   rw [List.length_append]
   exact h9
  obtain ⟨so21, ca22, rfl⟩ := zn (M.has 4 rfl)
  have hln : (rs ++ [(Rk.mk t.toNat so6 ca6 us)]).length = rs.length + 1 := by rw [List.length_append]; rfl
  refine ⟨(M.sub (cn (cn (cn (cn (cn (List.nil_sublist _))))))), ?_⟩
  intro a A
  refine qf A 11 rfl rfl rfl rfl hP (M.sub (cn (cn (cn (cn (cn (List.nil_sublist _))))))) (fun w1 M => ql rfl) λa A↦?_
  refine qf (v := .pointer (some ⟨b, 1, none⟩)) A 12 rfl rfl rfl rfl hP (M.sub (cn (cn (cn (cn (cn (List.nil_sublist _))))))) (fun w1 M => qb RcD_fld_73_1 rfl rfl) λa A↦?_
  refine qs (by kernel_rfl) (jx (us := [.slice tz ts.length tc, .slice so21 ((rs ++ [(Rk.mk t.toNat so6 ca6 us)]).length) ca22]) (L' := (.row 86 2 (.slice (some ⟨g17, 0, none⟩) 1 1) 1 (qg Rk.c [(Rk.mk t.toNat so6 ca6 us)]) :: .row 42 11 (.slice so6 us.length ca6) us.length (cellsOf us) :: .obj b (.cells #[.slice tz ts.length tc, .slice so21 ((rs ++ [(Rk.mk t.toNat so6 ca6 us)]).length) ca22] 73) :: .row 33 7 (.slice tz ts.length tc) ts.length (qg Ty.c ts) :: .row 86 2 (.slice so21 ((rs ++ [(Rk.mk t.toNat so6 ca6 us)]).length) ca22) ((rs ++ [(Rk.mk t.toNat so6 ca6 us)]).length) (qg Rk.c (rs ++ [(Rk.mk t.toNat so6 ca6 us)])) :: (others w12.drew w16 [.row 42 11 (.slice so6 us.length ca6) us.length (cellsOf us)] ++ Y))) A M 13 rfl rfl rfl (qy rfl rfl rfl (by kernel_rfl) M 2 rfl rfl rfl) 2 rfl rfl rfl ?_)
  intro w23 M
  refine ⟨(M.sub (cn (cn (cn (cn (cn (List.nil_sublist _))))))), ?_⟩
  refine zi (by kernel_rfl) ?_
  refine hK14 _ _ (wsk fun K24 hK24 => wrl (sdm A λa A↦?_))
  refine sdo A (ql rfl) λa A↦?_
  refine sdo (v := .pointer (some ⟨b, 1, none⟩)) A (qb RcD_fld_73_1 rfl rfl) λa A↦?_
  refine sdo A (qj M RcD_is1_71 rfl 2 rfl rfl) λa A↦?_
  refine sdo A (qr Tryz.underlying71 rfl) λa A↦?_
  refine sdo (v := .int .i64 ((((rs ++ [(Rk.mk t.toNat so6 ca6 us)]).length - 1 : Nat) : Int))) A (qh rfl rfl (fun w => (jw (je (by omega) (by omega)) w).trans (by rw [show ((((rs ++ [(Rk.mk t.toNat so6 ca6 us)]).length : Nat) : Int) - 1 : Int) = (((rs ++ [(Rk.mk t.toNat so6 ca6 us)]).length - 1 : Nat) : Int) from by omega]))) λa A↦?_
  iterate 2 refine sda A λa A↦?_
  refine qa (hK24 _ _ (wp_ret (hret _ _ (en2 A rfl (qe rfl) (qe rfl) ?_))))
  replace M : Mg w0 w23 (.row 42 11 (.slice so6 us.length ca6) us.length (cellsOf us) :: .row 86 2 (.slice (some ⟨g17, 0, none⟩) 1 1) 1 (qg Rk.c [(Rk.mk t.toNat so6 ca6 us)]) :: .obj b (.cells #[.slice tz ts.length tc, .slice so21 ((rs ++ [(Rk.mk t.toNat so6 ca6 us)]).length) ca22] 73) :: .row 33 7 (.slice tz ts.length tc) ts.length (qg Ty.c ts) :: .row 86 2 (.slice so21 ((rs ++ [(Rk.mk t.toNat so6 ca6 us)]).length) ca22) ((rs ++ [(Rk.mk t.toNat so6 ca6 us)]).length) (qg Rk.c (rs ++ [(Rk.mk t.toNat so6 ca6 us)])) :: (others w12.drew w16 [.row 42 11 (.slice so6 us.length ca6) us.length (cellsOf us)] ++ Y)) := M.bring 1 rfl rfl
  replace M : Mg w0 w23 (.row 86 2 (.slice so21 ((rs ++ [(Rk.mk t.toNat so6 ca6 us)]).length) ca22) ((rs ++ [(Rk.mk t.toNat so6 ca6 us)]).length) (qg Rk.c (rs ++ [(Rk.mk t.toNat so6 ca6 us)])) :: .row 42 11 (.slice so6 us.length ca6) us.length (cellsOf us) :: .row 86 2 (.slice (some ⟨g17, 0, none⟩) 1 1) 1 (qg Rk.c [(Rk.mk t.toNat so6 ca6 us)]) :: .obj b (.cells #[.slice tz ts.length tc, .slice so21 ((rs ++ [(Rk.mk t.toNat so6 ca6 us)]).length) ca22] 73) :: .row 33 7 (.slice tz ts.length tc) ts.length (qg Ty.c ts) :: (others w12.drew w16 [.row 42 11 (.slice so6 us.length ca6) us.length (cellsOf us)] ++ Y)) := M.bring 4 rfl rfl
  replace M : Mg w0 w23 (.row 33 7 (.slice tz ts.length tc) ts.length (qg Ty.c ts) :: .row 86 2 (.slice so21 ((rs ++ [(Rk.mk t.toNat so6 ca6 us)]).length) ca22) ((rs ++ [(Rk.mk t.toNat so6 ca6 us)]).length) (qg Rk.c (rs ++ [(Rk.mk t.toNat so6 ca6 us)])) :: .row 42 11 (.slice so6 us.length ca6) us.length (cellsOf us) :: .row 86 2 (.slice (some ⟨g17, 0, none⟩) 1 1) 1 (qg Rk.c [(Rk.mk t.toNat so6 ca6 us)]) :: .obj b (.cells #[.slice tz ts.length tc, .slice so21 ((rs ++ [(Rk.mk t.toNat so6 ca6 us)]).length) ca22] 73) :: (others w12.drew w16 [.row 42 11 (.slice so6 us.length ca6) us.length (cellsOf us)] ++ Y)) := M.bring 4 rfl rfl
  replace M : Mg w0 w23 (.obj b (.cells #[.slice tz ts.length tc, .slice so21 ((rs ++ [(Rk.mk t.toNat so6 ca6 us)]).length) ca22] 73) :: .row 33 7 (.slice tz ts.length tc) ts.length (qg Ty.c ts) :: .row 86 2 (.slice so21 ((rs ++ [(Rk.mk t.toNat so6 ca6 us)]).length) ca22) ((rs ++ [(Rk.mk t.toNat so6 ca6 us)]).length) (qg Rk.c (rs ++ [(Rk.mk t.toNat so6 ca6 us)])) :: .row 42 11 (.slice so6 us.length ca6) us.length (cellsOf us) :: .row 86 2 (.slice (some ⟨g17, 0, none⟩) 1 1) 1 (qg Rk.c [(Rk.mk t.toNat so6 ca6 us)]) :: (others w12.drew w16 [.row 42 11 (.slice so6 us.length ca6) us.length (cellsOf us)] ++ Y)) := M.bring 4 rfl rfl
  replace M : Mg w0 w23 (.obj b (.cells #[.slice tz ts.length tc, .slice so21 ((rs ++ [(Rk.mk t.toNat so6 ca6 us)]).length) ca22] 73) :: .row 33 7 (.slice tz ts.length tc) ts.length (qg Ty.c ts) :: .row 86 2 (.slice so21 ((rs ++ [(Rk.mk t.toNat so6 ca6 us)]).length) ca22) ((rs ++ [(Rk.mk t.toNat so6 ca6 us)]).length) (qg Rk.c (rs ++ [(Rk.mk t.toNat so6 ca6 us)])) :: .row 42 11 (.slice so6 us.length ca6) us.length (cellsOf us) :: (others w12.drew w16 [.row 42 11 (.slice so6 us.length ca6) us.length (cellsOf us)] ++ Y)) := by
   have h9 := M.sub (cc (cc (cc (cc (cn (.refl _))))))
   exact h9
  exact ⟨us, so6, ca6, so21, ca22, _, by rw [show (rs ++ [(Rk.mk t.toNat so6 ca6 us)]).length - 1 = rs.length by omega], ⟨htr, hLu, vl⟩, M⟩
 ·
  refine zl A 7 rfl rfl rfl rfl (qx rfl rfl (fun w => by kernel_rfl)) (yp (fun t _ => km t) (hV _ (M.dropn 3)).1 (hV _ (M.dropn 3)).2 hvb) ?_
  rintro _ w26 ⟨v6, us, rfl, ⟨htr, hus⟩, hM25⟩
  obtain ⟨so6, ca6, rfl⟩ := zn (hM25.has 0 rfl)
  have hun : us.length = vs.length := by have := congrArg List.length htr; simpa using this
  have hLu : ∀ t ∈ us, Lives (others w12.drew w26 [.row 42 11 (.slice so6 us.length ca6) us.length (cellsOf us)]) t := fun t ht => kx (hus t ht).1 (Dt.at_mono (fun b9 hb9 => ⟨hb9.1, fun d hd => by rw [List.mem_singleton] at hd; subst hd; exact hb9.2⟩) _ (hus t ht).2)
  replace M : Mg w0 w26 (.row 42 11 (.slice so6 us.length ca6) us.length (cellsOf us) :: .obj b (.cells #[.slice tz ts.length tc, .slice ro rs.length rc] 73) :: .row 33 7 (.slice tz ts.length tc) ts.length (qg Ty.c ts) :: .row 86 2 (.slice ro rs.length rc) rs.length (qg Rk.c rs) :: (others w12.drew w26 [.row 42 11 (.slice so6 us.length ca6) us.length (cellsOf us)] ++ Y)) := M.data 3 (qi (by simp) (qi (by simp) (qi (by simp) hY))) hM25 (qi (by simp) (qk qp))
  refine ⟨_, rfl, (M.sub (cn (cn (cn (cn (List.nil_sublist _)))))), ?_⟩
  intro a A
  refine qf (v := .agg #[.int .i64 (((t.toNat : Nat) : Int)), .slice so6 us.length ca6]) A 8 rfl rfl rfl rfl hP (M.sub (cn (cn (cn (cn (List.nil_sublist _)))))) (fun w1 M => zk rfl (fun w => by rw [show ((t.toNat : Nat) : Int) = t by omega]; kernel_rfl)) λa A↦?_
  refine xd (rs := [4, 9]) (by kernel_rfl) (by simp) ⟨?_, ?_, trivial⟩
  ·
   refine xh A 4 rfl rfl rfl rfl (qj M RcD_is1_71 rfl 1 rfl rfl) (M.sub (cn (cn (cn (cn (List.nil_sublist _)))))) λa A↦?_
   refine qs (by kernel_rfl) (vr (e := 86) (sz := 2) (m := 1) (vs := qg Rk.c [(Rk.mk t.toNat so6 ca6 us)]) A M 9 rfl rfl rfl rfl (qz rfl (by kernel_rfl)) rfl rfl (.inl (by decide)) ?_)
   intro g27 w28 M
   refine ⟨(M.sub (cn (cn (cn (cn (cn (List.nil_sublist _))))))), ?_⟩
   intro a A
   refine qs (by kernel_rfl) (js (e := 86) (sz := 2) (k := 4) (q := rs.length) (m := 1) (xs := qg Rk.c rs) (news := qg Rk.c [(Rk.mk t.toNat so6 ca6 us)]) (L' := fun v29 => (.row 86 2 (.slice (some ⟨g27, 0, none⟩) 1 1) 1 (qg Rk.c [(Rk.mk t.toNat so6 ca6 us)]) :: .row 42 11 (.slice so6 us.length ca6) us.length (cellsOf us) :: .obj b (.cells #[.slice tz ts.length tc, .slice ro rs.length rc] 73) :: .row 33 7 (.slice tz ts.length tc) ts.length (qg Ty.c ts) :: .row 86 2 (v29) (rs.length + 1) (qg Rk.c rs ++ qg Rk.c [(Rk.mk t.toNat so6 ca6 us)]) :: (others w12.drew w26 [.row 42 11 (.slice so6 us.length ca6) us.length (cellsOf us)] ++ Y))) A 10 rfl rfl rfl rfl (jq (z := .agg #[.int .i64 0, .slice none 0 0]) (sz := 2) (by_ := 32) Tryz.underlying71 (by kernel_rfl) rfl rfl rfl M 4 rfl rfl rfl rfl (rc_own (M.has 0 rfl)) (qic _) (by omega)) (fun _ => rfl) ?_)
   intro v29 w30 M
   replace M : Mg w0 w30 (.row 86 2 (.slice (some ⟨g27, 0, none⟩) 1 1) 1 (qg Rk.c [(Rk.mk t.toNat so6 ca6 us)]) :: .row 42 11 (.slice so6 us.length ca6) us.length (cellsOf us) :: .obj b (.cells #[.slice tz ts.length tc, .slice ro rs.length rc] 73) :: .row 33 7 (.slice tz ts.length tc) ts.length (qg Ty.c ts) :: .row 86 2 (v29) ((rs ++ [(Rk.mk t.toNat so6 ca6 us)]).length) (qg Rk.c (rs ++ [(Rk.mk t.toNat so6 ca6 us)])) :: (others w12.drew w26 [.row 42 11 (.slice so6 us.length ca6) us.length (cellsOf us)] ++ Y)) := by
    have h9 := M
    rw [← zw] at h9
    rw [List.length_append]
    exact h9
   obtain ⟨so31, ca32, rfl⟩ := zn (M.has 4 rfl)
   have hln : (rs ++ [(Rk.mk t.toNat so6 ca6 us)]).length = rs.length + 1 := by rw [List.length_append]; rfl
   refine ⟨(M.sub (cn (cn (cn (cn (cn (List.nil_sublist _))))))), ?_⟩
   intro a A
   refine qf A 11 rfl rfl rfl rfl hP (M.sub (cn (cn (cn (cn (cn (List.nil_sublist _))))))) (fun w1 M => ql rfl) λa A↦?_
   refine qf (v := .pointer (some ⟨b, 1, none⟩)) A 12 rfl rfl rfl rfl hP (M.sub (cn (cn (cn (cn (cn (List.nil_sublist _))))))) (fun w1 M => qb RcD_fld_73_1 rfl rfl) λa A↦?_
   refine qs (by kernel_rfl) (jx (us := [.slice tz ts.length tc, .slice so31 ((rs ++ [(Rk.mk t.toNat so6 ca6 us)]).length) ca32]) (L' := (.row 86 2 (.slice (some ⟨g27, 0, none⟩) 1 1) 1 (qg Rk.c [(Rk.mk t.toNat so6 ca6 us)]) :: .row 42 11 (.slice so6 us.length ca6) us.length (cellsOf us) :: .obj b (.cells #[.slice tz ts.length tc, .slice so31 ((rs ++ [(Rk.mk t.toNat so6 ca6 us)]).length) ca32] 73) :: .row 33 7 (.slice tz ts.length tc) ts.length (qg Ty.c ts) :: .row 86 2 (.slice so31 ((rs ++ [(Rk.mk t.toNat so6 ca6 us)]).length) ca32) ((rs ++ [(Rk.mk t.toNat so6 ca6 us)]).length) (qg Rk.c (rs ++ [(Rk.mk t.toNat so6 ca6 us)])) :: (others w12.drew w26 [.row 42 11 (.slice so6 us.length ca6) us.length (cellsOf us)] ++ Y))) A M 13 rfl rfl rfl (qy rfl rfl rfl (by kernel_rfl) M 2 rfl rfl rfl) 2 rfl rfl rfl ?_)
   intro w33 M
   refine ⟨(M.sub (cn (cn (cn (cn (cn (List.nil_sublist _))))))), ?_⟩
   refine zi (by kernel_rfl) ?_
   refine hK14 _ _ (wsk fun K34 hK34 => wrl (sdm A λa A↦?_))
   refine sdo A (ql rfl) λa A↦?_
   refine sdo (v := .pointer (some ⟨b, 1, none⟩)) A (qb RcD_fld_73_1 rfl rfl) λa A↦?_
   refine sdo A (qj M RcD_is1_71 rfl 2 rfl rfl) λa A↦?_
   refine sdo A (qr Tryz.underlying71 rfl) λa A↦?_
   refine sdo (v := .int .i64 ((((rs ++ [(Rk.mk t.toNat so6 ca6 us)]).length - 1 : Nat) : Int))) A (qh rfl rfl (fun w => (jw (je (by omega) (by omega)) w).trans (by rw [show ((((rs ++ [(Rk.mk t.toNat so6 ca6 us)]).length : Nat) : Int) - 1 : Int) = (((rs ++ [(Rk.mk t.toNat so6 ca6 us)]).length - 1 : Nat) : Int) from by omega]))) λa A↦?_
   iterate 2 refine sda A λa A↦?_
   refine qa (hK34 _ _ (wp_ret (hret _ _ (en2 A rfl (qe rfl) (qe rfl) ?_))))
   replace M : Mg w0 w33 (.row 42 11 (.slice so6 us.length ca6) us.length (cellsOf us) :: .row 86 2 (.slice (some ⟨g27, 0, none⟩) 1 1) 1 (qg Rk.c [(Rk.mk t.toNat so6 ca6 us)]) :: .obj b (.cells #[.slice tz ts.length tc, .slice so31 ((rs ++ [(Rk.mk t.toNat so6 ca6 us)]).length) ca32] 73) :: .row 33 7 (.slice tz ts.length tc) ts.length (qg Ty.c ts) :: .row 86 2 (.slice so31 ((rs ++ [(Rk.mk t.toNat so6 ca6 us)]).length) ca32) ((rs ++ [(Rk.mk t.toNat so6 ca6 us)]).length) (qg Rk.c (rs ++ [(Rk.mk t.toNat so6 ca6 us)])) :: (others w12.drew w26 [.row 42 11 (.slice so6 us.length ca6) us.length (cellsOf us)] ++ Y)) := M.bring 1 rfl rfl
   replace M : Mg w0 w33 (.row 86 2 (.slice so31 ((rs ++ [(Rk.mk t.toNat so6 ca6 us)]).length) ca32) ((rs ++ [(Rk.mk t.toNat so6 ca6 us)]).length) (qg Rk.c (rs ++ [(Rk.mk t.toNat so6 ca6 us)])) :: .row 42 11 (.slice so6 us.length ca6) us.length (cellsOf us) :: .row 86 2 (.slice (some ⟨g27, 0, none⟩) 1 1) 1 (qg Rk.c [(Rk.mk t.toNat so6 ca6 us)]) :: .obj b (.cells #[.slice tz ts.length tc, .slice so31 ((rs ++ [(Rk.mk t.toNat so6 ca6 us)]).length) ca32] 73) :: .row 33 7 (.slice tz ts.length tc) ts.length (qg Ty.c ts) :: (others w12.drew w26 [.row 42 11 (.slice so6 us.length ca6) us.length (cellsOf us)] ++ Y)) := M.bring 4 rfl rfl
   replace M : Mg w0 w33 (.row 33 7 (.slice tz ts.length tc) ts.length (qg Ty.c ts) :: .row 86 2 (.slice so31 ((rs ++ [(Rk.mk t.toNat so6 ca6 us)]).length) ca32) ((rs ++ [(Rk.mk t.toNat so6 ca6 us)]).length) (qg Rk.c (rs ++ [(Rk.mk t.toNat so6 ca6 us)])) :: .row 42 11 (.slice so6 us.length ca6) us.length (cellsOf us) :: .row 86 2 (.slice (some ⟨g27, 0, none⟩) 1 1) 1 (qg Rk.c [(Rk.mk t.toNat so6 ca6 us)]) :: .obj b (.cells #[.slice tz ts.length tc, .slice so31 ((rs ++ [(Rk.mk t.toNat so6 ca6 us)]).length) ca32] 73) :: (others w12.drew w26 [.row 42 11 (.slice so6 us.length ca6) us.length (cellsOf us)] ++ Y)) := M.bring 4 rfl rfl
   replace M : Mg w0 w33 (.obj b (.cells #[.slice tz ts.length tc, .slice so31 ((rs ++ [(Rk.mk t.toNat so6 ca6 us)]).length) ca32] 73) :: .row 33 7 (.slice tz ts.length tc) ts.length (qg Ty.c ts) :: .row 86 2 (.slice so31 ((rs ++ [(Rk.mk t.toNat so6 ca6 us)]).length) ca32) ((rs ++ [(Rk.mk t.toNat so6 ca6 us)]).length) (qg Rk.c (rs ++ [(Rk.mk t.toNat so6 ca6 us)])) :: .row 42 11 (.slice so6 us.length ca6) us.length (cellsOf us) :: .row 86 2 (.slice (some ⟨g27, 0, none⟩) 1 1) 1 (qg Rk.c [(Rk.mk t.toNat so6 ca6 us)]) :: (others w12.drew w26 [.row 42 11 (.slice so6 us.length ca6) us.length (cellsOf us)] ++ Y)) := M.bring 4 rfl rfl
   replace M : Mg w0 w33 (.obj b (.cells #[.slice tz ts.length tc, .slice so31 ((rs ++ [(Rk.mk t.toNat so6 ca6 us)]).length) ca32] 73) :: .row 33 7 (.slice tz ts.length tc) ts.length (qg Ty.c ts) :: .row 86 2 (.slice so31 ((rs ++ [(Rk.mk t.toNat so6 ca6 us)]).length) ca32) ((rs ++ [(Rk.mk t.toNat so6 ca6 us)]).length) (qg Rk.c (rs ++ [(Rk.mk t.toNat so6 ca6 us)])) :: .row 42 11 (.slice so6 us.length ca6) us.length (cellsOf us) :: (others w12.drew w26 [.row 42 11 (.slice so6 us.length ca6) us.length (cellsOf us)] ++ Y)) := by
    have h9 := M.sub (cc (cc (cc (cc (cn (.refl _))))))
    exact h9
   exact ⟨us, so6, ca6, so31, ca32, _, by rw [show (rs ++ [(Rk.mk t.toNat so6 ca6 us)]).length - 1 = rs.length by omega], ⟨htr, hLu, vl⟩, M⟩
  ·
   refine vr (e := 86) (sz := 2) (m := 1) (vs := qg Rk.c [(Rk.mk t.toNat so6 ca6 us)]) A M 9 rfl rfl rfl rfl (qz rfl (by kernel_rfl)) rfl rfl (.inl (by decide)) ?_
   intro g35 w36 M
   refine ⟨(M.sub (cn (cn (cn (cn (cn (List.nil_sublist _))))))), ?_⟩
   intro a A
   refine qs (by kernel_rfl) (xh A 4 rfl rfl rfl rfl (qj M RcD_is1_71 rfl 2 rfl rfl) (M.sub (cn (cn (cn (cn (cn (List.nil_sublist _))))))) ?_)
   intro a A
   refine qs (by kernel_rfl) (js (e := 86) (sz := 2) (k := 4) (q := rs.length) (m := 1) (xs := qg Rk.c rs) (news := qg Rk.c [(Rk.mk t.toNat so6 ca6 us)]) (L' := fun v37 => (.row 86 2 (.slice (some ⟨g35, 0, none⟩) 1 1) 1 (qg Rk.c [(Rk.mk t.toNat so6 ca6 us)]) :: .row 42 11 (.slice so6 us.length ca6) us.length (cellsOf us) :: .obj b (.cells #[.slice tz ts.length tc, .slice ro rs.length rc] 73) :: .row 33 7 (.slice tz ts.length tc) ts.length (qg Ty.c ts) :: .row 86 2 (v37) (rs.length + 1) (qg Rk.c rs ++ qg Rk.c [(Rk.mk t.toNat so6 ca6 us)]) :: (others w12.drew w26 [.row 42 11 (.slice so6 us.length ca6) us.length (cellsOf us)] ++ Y))) A 10 rfl rfl rfl rfl (jq (z := .agg #[.int .i64 0, .slice none 0 0]) (sz := 2) (by_ := 32) Tryz.underlying71 (by kernel_rfl) rfl rfl rfl M 4 rfl rfl rfl rfl (rc_own (M.has 0 rfl)) (qic _) (by omega)) (fun _ => rfl) ?_)
   intro v37 w38 M
   replace M : Mg w0 w38 (.row 86 2 (.slice (some ⟨g35, 0, none⟩) 1 1) 1 (qg Rk.c [(Rk.mk t.toNat so6 ca6 us)]) :: .row 42 11 (.slice so6 us.length ca6) us.length (cellsOf us) :: .obj b (.cells #[.slice tz ts.length tc, .slice ro rs.length rc] 73) :: .row 33 7 (.slice tz ts.length tc) ts.length (qg Ty.c ts) :: .row 86 2 (v37) ((rs ++ [(Rk.mk t.toNat so6 ca6 us)]).length) (qg Rk.c (rs ++ [(Rk.mk t.toNat so6 ca6 us)])) :: (others w12.drew w26 [.row 42 11 (.slice so6 us.length ca6) us.length (cellsOf us)] ++ Y)) := by
    have h9 := M
    rw [← zw] at h9
    rw [List.length_append]
    exact h9
   obtain ⟨so39, ca40, rfl⟩ := zn (M.has 4 rfl)
   have hln : (rs ++ [(Rk.mk t.toNat so6 ca6 us)]).length = rs.length + 1 := by rw [List.length_append]; rfl
   refine ⟨(M.sub (cn (cn (cn (cn (cn (List.nil_sublist _))))))), ?_⟩
   intro a A
   refine qf A 11 rfl rfl rfl rfl hP (M.sub (cn (cn (cn (cn (cn (List.nil_sublist _))))))) (fun w1 M => ql rfl) λa A↦?_
   refine qf (v := .pointer (some ⟨b, 1, none⟩)) A 12 rfl rfl rfl rfl hP (M.sub (cn (cn (cn (cn (cn (List.nil_sublist _))))))) (fun w1 M => qb RcD_fld_73_1 rfl rfl) λa A↦?_
   refine qs (by kernel_rfl) (jx (us := [.slice tz ts.length tc, .slice so39 ((rs ++ [(Rk.mk t.toNat so6 ca6 us)]).length) ca40]) (L' := (.row 86 2 (.slice (some ⟨g35, 0, none⟩) 1 1) 1 (qg Rk.c [(Rk.mk t.toNat so6 ca6 us)]) :: .row 42 11 (.slice so6 us.length ca6) us.length (cellsOf us) :: .obj b (.cells #[.slice tz ts.length tc, .slice so39 ((rs ++ [(Rk.mk t.toNat so6 ca6 us)]).length) ca40] 73) :: .row 33 7 (.slice tz ts.length tc) ts.length (qg Ty.c ts) :: .row 86 2 (.slice so39 ((rs ++ [(Rk.mk t.toNat so6 ca6 us)]).length) ca40) ((rs ++ [(Rk.mk t.toNat so6 ca6 us)]).length) (qg Rk.c (rs ++ [(Rk.mk t.toNat so6 ca6 us)])) :: (others w12.drew w26 [.row 42 11 (.slice so6 us.length ca6) us.length (cellsOf us)] ++ Y))) A M 13 rfl rfl rfl (qy rfl rfl rfl (by kernel_rfl) M 2 rfl rfl rfl) 2 rfl rfl rfl ?_)
   intro w41 M
   refine ⟨(M.sub (cn (cn (cn (cn (cn (List.nil_sublist _))))))), ?_⟩
   refine zi (by kernel_rfl) ?_
   refine hK14 _ _ (wsk fun K42 hK42 => wrl (sdm A λa A↦?_))
   refine sdo A (ql rfl) λa A↦?_
   refine sdo (v := .pointer (some ⟨b, 1, none⟩)) A (qb RcD_fld_73_1 rfl rfl) λa A↦?_
   refine sdo A (qj M RcD_is1_71 rfl 2 rfl rfl) λa A↦?_
   refine sdo A (qr Tryz.underlying71 rfl) λa A↦?_
   refine sdo (v := .int .i64 ((((rs ++ [(Rk.mk t.toNat so6 ca6 us)]).length - 1 : Nat) : Int))) A (qh rfl rfl (fun w => (jw (je (by omega) (by omega)) w).trans (by rw [show ((((rs ++ [(Rk.mk t.toNat so6 ca6 us)]).length : Nat) : Int) - 1 : Int) = (((rs ++ [(Rk.mk t.toNat so6 ca6 us)]).length - 1 : Nat) : Int) from by omega]))) λa A↦?_
   iterate 2 refine sda A λa A↦?_
   refine qa (hK42 _ _ (wp_ret (hret _ _ (en2 A rfl (qe rfl) (qe rfl) ?_))))
   replace M : Mg w0 w41 (.row 42 11 (.slice so6 us.length ca6) us.length (cellsOf us) :: .row 86 2 (.slice (some ⟨g35, 0, none⟩) 1 1) 1 (qg Rk.c [(Rk.mk t.toNat so6 ca6 us)]) :: .obj b (.cells #[.slice tz ts.length tc, .slice so39 ((rs ++ [(Rk.mk t.toNat so6 ca6 us)]).length) ca40] 73) :: .row 33 7 (.slice tz ts.length tc) ts.length (qg Ty.c ts) :: .row 86 2 (.slice so39 ((rs ++ [(Rk.mk t.toNat so6 ca6 us)]).length) ca40) ((rs ++ [(Rk.mk t.toNat so6 ca6 us)]).length) (qg Rk.c (rs ++ [(Rk.mk t.toNat so6 ca6 us)])) :: (others w12.drew w26 [.row 42 11 (.slice so6 us.length ca6) us.length (cellsOf us)] ++ Y)) := M.bring 1 rfl rfl
   replace M : Mg w0 w41 (.row 86 2 (.slice so39 ((rs ++ [(Rk.mk t.toNat so6 ca6 us)]).length) ca40) ((rs ++ [(Rk.mk t.toNat so6 ca6 us)]).length) (qg Rk.c (rs ++ [(Rk.mk t.toNat so6 ca6 us)])) :: .row 42 11 (.slice so6 us.length ca6) us.length (cellsOf us) :: .row 86 2 (.slice (some ⟨g35, 0, none⟩) 1 1) 1 (qg Rk.c [(Rk.mk t.toNat so6 ca6 us)]) :: .obj b (.cells #[.slice tz ts.length tc, .slice so39 ((rs ++ [(Rk.mk t.toNat so6 ca6 us)]).length) ca40] 73) :: .row 33 7 (.slice tz ts.length tc) ts.length (qg Ty.c ts) :: (others w12.drew w26 [.row 42 11 (.slice so6 us.length ca6) us.length (cellsOf us)] ++ Y)) := M.bring 4 rfl rfl
   replace M : Mg w0 w41 (.row 33 7 (.slice tz ts.length tc) ts.length (qg Ty.c ts) :: .row 86 2 (.slice so39 ((rs ++ [(Rk.mk t.toNat so6 ca6 us)]).length) ca40) ((rs ++ [(Rk.mk t.toNat so6 ca6 us)]).length) (qg Rk.c (rs ++ [(Rk.mk t.toNat so6 ca6 us)])) :: .row 42 11 (.slice so6 us.length ca6) us.length (cellsOf us) :: .row 86 2 (.slice (some ⟨g35, 0, none⟩) 1 1) 1 (qg Rk.c [(Rk.mk t.toNat so6 ca6 us)]) :: .obj b (.cells #[.slice tz ts.length tc, .slice so39 ((rs ++ [(Rk.mk t.toNat so6 ca6 us)]).length) ca40] 73) :: (others w12.drew w26 [.row 42 11 (.slice so6 us.length ca6) us.length (cellsOf us)] ++ Y)) := M.bring 4 rfl rfl
   replace M : Mg w0 w41 (.obj b (.cells #[.slice tz ts.length tc, .slice so39 ((rs ++ [(Rk.mk t.toNat so6 ca6 us)]).length) ca40] 73) :: .row 33 7 (.slice tz ts.length tc) ts.length (qg Ty.c ts) :: .row 86 2 (.slice so39 ((rs ++ [(Rk.mk t.toNat so6 ca6 us)]).length) ca40) ((rs ++ [(Rk.mk t.toNat so6 ca6 us)]).length) (qg Rk.c (rs ++ [(Rk.mk t.toNat so6 ca6 us)])) :: .row 42 11 (.slice so6 us.length ca6) us.length (cellsOf us) :: .row 86 2 (.slice (some ⟨g35, 0, none⟩) 1 1) 1 (qg Rk.c [(Rk.mk t.toNat so6 ca6 us)]) :: (others w12.drew w26 [.row 42 11 (.slice so6 us.length ca6) us.length (cellsOf us)] ++ Y)) := M.bring 4 rfl rfl
   replace M : Mg w0 w41 (.obj b (.cells #[.slice tz ts.length tc, .slice so39 ((rs ++ [(Rk.mk t.toNat so6 ca6 us)]).length) ca40] 73) :: .row 33 7 (.slice tz ts.length tc) ts.length (qg Ty.c ts) :: .row 86 2 (.slice so39 ((rs ++ [(Rk.mk t.toNat so6 ca6 us)]).length) ca40) ((rs ++ [(Rk.mk t.toNat so6 ca6 us)]).length) (qg Rk.c (rs ++ [(Rk.mk t.toNat so6 ca6 us)])) :: .row 42 11 (.slice so6 us.length ca6) us.length (cellsOf us) :: (others w12.drew w26 [.row 42 11 (.slice so6 us.length ca6) us.length (cellsOf us)] ++ Y)) := by
    have h9 := M.sub (cc (cc (cc (cc (cn (.refl _))))))
    exact h9
   exact ⟨us, so6, ca6, so39, ca40, _, by rw [show (rs ++ [(Rk.mk t.toNat so6 ca6 us)]).length - 1 = rs.length by omega], ⟨htr, hLu, vl⟩, M⟩
section
variable {P : Program} {w0 w : World} {L : List Ck} {l : List (Nat × Value)} {dst : Option Tmp} {ty : TypeId} {pos : String} {after : Array Edge} {guard : Option (Nat × Bool)} {v : Value} {ops : List Oper} {Q : Exit → Act → World → Prop} {a : Act} {n : Nat} {o : Oper} {S : World → Prop} {md : Region.Mode} {fuel : Nat} {listed : Array Bool}
end
theorem RcE_is1_26 : Is1 Tryz.prog 26 := ⟨⟨_, Tryz.underlying26, rfl⟩, by kernel_rfl⟩
theorem RcE_is1_3 : Is1 Tryz.prog 3 := ⟨⟨_, Tryz.underlying3, rfl⟩, by kernel_rfl⟩
theorem RcE_is1_30 : Is1 Tryz.prog 30 := ⟨⟨_, Tryz.underlying30, rfl⟩, by kernel_rfl⟩
theorem RcE_is1_4 : Is1 Tryz.prog 4 := ⟨⟨_, Tryz.underlying4, rfl⟩, by kernel_rfl⟩
theorem RcE_is1_71 : Is1 Tryz.prog 71 := ⟨⟨_, Tryz.underlying71, rfl⟩, by kernel_rfl⟩
theorem RcE_is1_9 : Is1 Tryz.prog 9 := ⟨⟨_, Tryz.underlying9, rfl⟩, by kernel_rfl⟩
theorem RcE_fld_33_1 : FieldAt Tryz.prog 33 1 1 := ⟨_, _, Tryz.underlying33, rfl, rfl, by kernel_rfl⟩
theorem RcE_fld_33_2 : FieldAt Tryz.prog 33 2 2 := ⟨_, _, Tryz.underlying33, rfl, rfl, by kernel_rfl⟩
theorem RcE_fld_33_4 : FieldAt Tryz.prog 33 4 4 := ⟨_, _, Tryz.underlying33, rfl, rfl, by kernel_rfl⟩
theorem RcE_fld_33_6 : FieldAt Tryz.prog 33 6 6 := ⟨_, _, Tryz.underlying33, rfl, rfl, by kernel_rfl⟩
theorem RcE_fld_73_0 : FieldAt Tryz.prog 73 0 0 := ⟨_, _, Tryz.underlying73, rfl, rfl, by kernel_rfl⟩
theorem RcE_fld_73_1 : FieldAt Tryz.prog 73 1 1 := ⟨_, _, Tryz.underlying73, rfl, rfl, by kernel_rfl⟩
theorem RcE_isS_33 : IsS Tryz.prog 33 7 := ⟨⟨_, Tryz.underlying33⟩, by kernel_rfl⟩
theorem RcE_isS_42 : IsS Tryz.prog 42 11 := ⟨⟨_, Tryz.underlying42⟩, by kernel_rfl⟩
set_option maxHeartbeats 1000000 in
theorem type_no {w : World} {b tc rc : Nat} {tz ro : Option Addr} {ts : List Ty} {rs : List Rk} (V : SR w b tz tc ts ro rc rs) (hW : WS (ts.map Ty.k) (rs.map Rk.k)) {u : Ty} (hU : TyR w u) (hul : u.fs.length ≤ 1000000) (hum : u.ms.length ≤ 1000000) (huz : ∀ s ∈ u.fs, s.size ≤ 281474976710656) (hno : (tyS (ts.map Ty.k) u.k).2.2 = false) : Calls Tryz.prog 8 #[.pointer (some ⟨b, 0, none⟩), .agg #[.string u.nm, .int .i64 u.par, .slice u.fo u.fs.length u.fc, .slice u.mo u.ms.length u.mc, .bool u.sl, .bool u.op, .string u.ui]] w fun e w' => e = .returned (.tuple #[.int .i64 (tyS (ts.map Ty.k) u.k).1, .int .i64 (tyS (ts.map Ty.k) u.k).2.1]) ∧ Below w.heap.size w w' := by
 have hkl := hW.kl
 have hrl := hW.rl
 rw [List.length_map] at hkl hrl
 have M : Mg w w ([]) := Mg.start w
 refine qm (l := [(0, .pointer (some ⟨b, 0, none⟩)), (1, .agg #[.string u.nm, .int .i64 u.par, .slice u.fo u.fs.length u.fc, .slice u.mo u.ms.length u.mc, .bool u.sl, .bool u.op, .string u.ui])]) Tryz.func8 rfl Tryz.ntmps8 rfl rfl ?_
 intro Q hret hnorm hP a A
 refine wsk fun K1 hK1 => wrl (zp (vs := [.string u.nm, .int .i64 u.par, .slice u.fo u.fs.length u.fc, .slice u.mo u.ms.length u.mc, .bool u.sl, .bool u.op, .string u.ui]) (t := 33) A M rfl rfl rfl pg (zh rfl rfl) (by decide) ?_)
 intro g2 w3 M a A
 iterate 2 refine sda A λa A↦?_
 refine qa (hK1 _ _ (wsk fun K4 hK4 => wsk fun K5 hK5 => wrl (sdm A λa A↦?_)))
 refine sdo (v := .bool false) A (qh rfl rfl (fun w => by kernel_rfl)) λa A↦?_
 iterate 2 refine sdm A λa A↦?_
 refine sdo A (zu M RcE_isS_33 rfl 0 rfl (cs := [.string u.nm, .int .i64 u.par, .slice u.fo u.fs.length u.fc, .slice u.mo u.ms.length u.mc, .bool u.sl, .bool u.op, .string u.ui]) rfl rfl) λa A↦?_
 rcases tf (gdB ts.length u.k) with hb6 | hb6
 ·
  refine gcl A M (ef rfl rfl) (yt (V.below M.bel) hW (hU.below M.bel) hul huz hb6) fun w8 hb7 M a A => ?_
  refine sdo (v := .bool false) A (zv rfl ji) λa A↦?_
  refine sdk (v := .bool false) A λa A↦?_
  refine qa (hK5 _ _ (wp_cond_false (A.ev rfl) ?_))
  refine wp_skip (hK4 _ _ (wsk fun K9 hK9 => wsk fun K10 hK10 => wrl (sdm A λa A↦?_)))
  refine sdo (v := .pointer (some ⟨g2, 6, none⟩)) A (qb RcE_fld_33_6 rfl rfl) λa A↦?_
  refine sdo A (qj M RcE_is1_9 rfl 0 rfl rfl) λa A↦?_
  refine gcl A M (ef rfl rfl) (yv (V.below M.bel) hW) fun w12 hb11 M a A => ?_
  refine sda A λa A↦?_
  refine qa (hK10 _ _ (wsk fun K13 hK13 => wrl (sdm A λa A↦?_)))
  rcases tf (decide (0 ≤ uix (ts.map Ty.k) u.ui)) with hb14 | hb14
  ·
   have hb14' := of_decide_eq_true hb14
   refine sdc A zt hb14 λa A↦?_
   refine qa (hK13 _ _ (wp_cond_true (A.ev rfl) ?_))
   refine wsk fun K15 hK15 => wrl ?_
   iterate 2 refine sdm A λa A↦?_
   refine sdo A (zu M RcE_isS_33 rfl 0 rfl (cs := [.string u.nm, .int .i64 u.par, .slice u.fo u.fs.length u.fc, .slice u.mo u.ms.length u.mc, .bool u.sl, .bool u.op, .string u.ui]) rfl rfl) λa A↦?_
   obtain ⟨y, hy⟩ : ∃ y, ts[(uix (ts.map Ty.k) u.ui).toNat]? = some y := ⟨_, List.getElem?_eq_getElem (show (uix (ts.map Ty.k) u.ui).toNat < ts.length by have := uix_lt (ts.map Ty.k) u.ui; rw [List.length_map] at this; omega)⟩
   refine gcl A M (ef rfl rfl) (again_any (V.below M.bel) hW (hU.below M.bel) hul hum (by omega) (by have := uix_lt (ts.map Ty.k) u.ui; rw [List.length_map] at this; omega) hy) fun w17 hb16 M a A => ?_
   iterate 2 refine sdo A (za (vs := [.int .i64 ((if xg y.k u.k = true then uix (ts.map Ty.k) u.ui else 0)), .int .i64 ((if xg y.k u.k = true then 0 else 8))]) rfl rfl) λa A↦?_
   iterate 2 refine sda A λa A↦?_
   refine qa (hK15 _ _ (wp_ret (hret _ _ (en2 A rfl (qe rfl) (qe rfl) ?_))))
   refine ⟨?_, M.bel⟩
   rw [tyS_old (show gdB (ts.map Ty.k).length u.k = true by rw [List.length_map]; exact hb6) (show 0 ≤ uix (ts.map Ty.k) u.k.ui by show 0 ≤ uix (ts.map Ty.k) u.ui; omega) (jg hy)]
   rcases tf (xg y.k u.k) with hq | hq
   ·
    rw [if_pos hq, if_pos hq, if_pos hq]; rfl
   ·
    rw [if_neg (by rw [hq]; decide), if_neg (by rw [hq]; decide), if_neg (by rw [hq]; decide)]
  ·
   have hb14' := of_decide_eq_false hb14
   refine sdc A zt hb14 λa A↦?_
   refine qa (hK13 _ _ (wp_cond_false (A.ev rfl) ?_))
   refine wp_skip (hK9 _ _ (wsk fun K18 hK18 => wp_block (wsk fun K19 hK19 => ?_)))
   obtain ⟨hg1, hg2, hg3, hg4⟩ := gd_t hb6
   rw [show u.k.par = u.par from rfl] at hg3 hg4
   have hc16 := hW.cnt16 (t := u.par) (by rw [List.length_map]; exact hg4)
   refine jm (S := fun w1 => Mg w w1 (.obj g2 (.cells #[.string u.nm, .int .i64 u.par, .slice u.fo u.fs.length u.fc, .slice u.mo u.ms.length u.mc, .bool u.sl, .bool u.op, .string u.ui] 33) :: [])) (by kernel_rfl) ?_
   replace M := M.drew
   refine qf (v := .pointer (some ⟨g2, 1, none⟩)) A 0 rfl rfl rfl rfl hP (M.sub (cc (List.nil_sublist _))) (fun w1 M => qb RcE_fld_33_1 rfl rfl) λa A↦?_
   refine qf A 1 rfl rfl rfl rfl hP (M.sub (cc (List.nil_sublist _))) (fun w1 M => qj M RcE_is1_3 rfl 0 rfl rfl) λa A↦?_
   rcases tf ((u.par != -1)) with hb20 | hb20
   ·
    have hb20' := bne_iff_ne.1 hb20
    refine qf (v := .bool true) A 2 rfl rfl rfl rfl hP (M.sub (cc (List.nil_sublist _))) (fun w1 M => qh rfl rfl (fun w => (jj w).trans (by rw [hb20]))) λa A↦?_
    refine qf A 3 rfl rfl rfl rfl hP (M.sub (cc (List.nil_sublist _))) (fun w1 M => qt rfl) λa A↦?_
    refine qf A 4 rfl rfl rfl rfl hP (M.sub (cc (List.nil_sublist _))) (fun w1 M => qt rfl) λa A↦?_
    refine qf A 5 rfl rfl rfl rfl hP (M.sub (cc (List.nil_sublist _))) (fun w1 M => ql rfl) λa A↦?_
    refine qf (v := .pointer (some ⟨b, 0, none⟩)) A 6 rfl rfl rfl rfl hP (M.sub (cc (List.nil_sublist _))) (fun w1 M => qb RcE_fld_73_0 rfl rfl) λa A↦?_
    refine qf A 7 rfl rfl rfl rfl hP (M.sub (cc (List.nil_sublist _))) (fun w1 M => E.m_loadX M V.c0 RcE_is1_26 rfl) λa A↦?_
    refine qf (v := .pointer (some ⟨g2, 1, none⟩)) A 8 rfl rfl rfl rfl hP (M.sub (cc (List.nil_sublist _))) (fun w1 M => qb RcE_fld_33_1 rfl rfl) λa A↦?_
    refine qf A 9 rfl rfl rfl rfl hP (M.sub (cc (List.nil_sublist _))) (fun w1 M => qj M RcE_is1_3 rfl 0 rfl rfl) λa A↦?_
    obtain ⟨ty21, bt22, ot23, it24, mt25, rt26, lt27, Ht28⟩ := V.T.at_ (i := (u.par).toNat) (by omega)
    refine qf (v := .pointer (some ⟨bt22, ot23 + (u.par).toNat * 7, none⟩)) A 10 rfl rfl rfl rfl hP (M.sub (cc (List.nil_sublist _))) (fun w1 M => zj (k := (u.par).toNat) Tryz.underlying26 (by kernel_rfl) rfl rfl (by first | rfl | omega) lt27 (by omega)) λa A↦?_
    refine qf (v := .pointer (some ⟨bt22, ot23 + (u.par).toNat * 7 + 4, none⟩)) A 11 rfl rfl rfl rfl hP (M.sub (cc (List.nil_sublist _))) (fun w1 M => qb RcE_fld_33_4 rfl rfl) λa A↦?_
    refine qf A 12 rfl rfl rfl rfl hP (M.sub (cc (List.nil_sublist _))) (fun w1 M => jy (j := 4) M Ht28 RcE_is1_4 rfl rfl rfl) λa A↦?_
    refine qf (v := .bool ty21.sl) A 13 rfl rfl rfl rfl hP (M.sub (cc (List.nil_sublist _))) (fun w1 M => zr rfl rfl rfl rfl) λa A↦?_
    refine qf A 14 rfl rfl rfl rfl hP (M.sub (cc (List.nil_sublist _))) (fun w1 M => zd rfl) λa A↦?_
    refine zi (by kernel_rfl) ?_
    refine hK19 _ _ ?_
    refine wp_cond_split (t := ty21.sl) (A.ev rfl) (fun hc29 => ?_) (fun hc29 => ?_)
    ·
     refine wsk fun K30 hK30 => wrl ?_
     iterate 2 refine sda A λa A↦?_
     refine qa (hK30 _ _ (wp_ret (hret _ _ (en2 A rfl (qe rfl) (qe rfl) ?_))))
     exact ⟨by rw [tyS_seal (show gdB (ts.map Ty.k).length u.k = true by rw [List.length_map]; exact hb6) (show ¬ 0 ≤ uix (ts.map Ty.k) u.k.ui by show ¬ 0 ≤ uix (ts.map Ty.k) u.ui; omega) (show slP (ts.map Ty.k) u.k.par = true from ((uy (show 0 ≤ u.par by omega) (jg it24)).trans hc29))], M.bel⟩
    ·
     refine wsk fun K31 hK31 => jm (S := fun w1 => Mg w w1 (.obj g2 (.cells #[.string u.nm, .int .i64 u.par, .slice u.fo u.fs.length u.fc, .slice u.mo u.ms.length u.mc, .bool u.sl, .bool u.op, .string u.ui] 33) :: [])) (by kernel_rfl) ?_
     replace M := M.drew
     refine qf A 0 rfl rfl rfl rfl hP (M.sub (cc (List.nil_sublist _))) (fun w1 M => qt rfl) λa A↦?_
     refine qf (v := .pointer (some ⟨g2, 1, none⟩)) A 1 rfl rfl rfl rfl hP (M.sub (cc (List.nil_sublist _))) (fun w1 M => qb RcE_fld_33_1 rfl rfl) λa A↦?_
     refine qf A 2 rfl rfl rfl rfl hP (M.sub (cc (List.nil_sublist _))) (fun w1 M => qj M RcE_is1_3 rfl 0 rfl rfl) λa A↦?_
     refine qf (v := .pointer (some ⟨g2, 2, none⟩)) A 4 rfl rfl rfl rfl hP (M.sub (cc (List.nil_sublist _))) (fun w1 M => qb RcE_fld_33_2 rfl rfl) λa A↦?_
     refine qf A 5 rfl rfl rfl rfl hP (M.sub (cc (List.nil_sublist _))) (fun w1 M => qj M RcE_is1_30 rfl 0 rfl rfl) λa A↦?_
     refine qf (v := .int .i64 (((u.fs.length : Nat) : Int))) A 6 rfl rfl rfl rfl hP (M.sub (cc (List.nil_sublist _))) (fun w1 M => qr Tryz.underlying30 rfl) λa A↦?_
     refine qs (by kernel_rfl) (zl A 3 rfl rfl rfl rfl (qx rfl rfl (fun w => by kernel_rfl)) (xk (V.below M.bel) hW (by omega) (by omega)) ?_)
     rintro _ w33 ⟨rfl, hb32⟩
     replace M := M.call hb32
     refine ⟨_, rfl, (M.sub (cc (List.nil_sublist _))), ?_⟩
     intro a A
     refine qf (v := .int .i64 (((cnt (ts.map Ty.k) u.par + u.fs.length : Nat) : Int))) A 7 rfl rfl rfl rfl hP (M.sub (cc (List.nil_sublist _))) (fun w1 M => qh rfl rfl (fun w => (jf (je (by omega) (by omega)) w).trans (by rw [show (((cnt (ts.map Ty.k) u.par : Nat) : Int) + ((u.fs.length : Nat) : Int) : Int) = ((cnt (ts.map Ty.k) u.par + u.fs.length : Nat) : Int) from by omega]))) λa A↦?_
     rcases tf (decide (16 < ((cnt (ts.map Ty.k) u.par + u.fs.length : Nat) : Int))) with hb34 | hb34
     ·
      have hb34' := of_decide_eq_true hb34
      refine qf (v := .bool true) A 8 rfl rfl rfl rfl hP (M.sub (cc (List.nil_sublist _))) (fun w1 M => qh rfl rfl (fun w => (xf w).trans (by rw [hb34]))) λa A↦?_
      refine qf A 9 rfl rfl rfl rfl hP (M.sub (cc (List.nil_sublist _))) (fun w1 M => qt rfl) λa A↦?_
      refine zq A 10 rfl rfl rfl rfl hP (M.sub (cc (List.nil_sublist _))) λa A↦?_
      refine zq A 11 rfl rfl rfl rfl hP (M.sub (cc (List.nil_sublist _))) λa A↦?_
      refine zq A 12 rfl rfl rfl rfl hP (M.sub (cc (List.nil_sublist _))) λa A↦?_
      refine zq A 13 rfl rfl rfl rfl hP (M.sub (cc (List.nil_sublist _))) λa A↦?_
      refine zq A 14 rfl rfl rfl rfl hP (M.sub (cc (List.nil_sublist _))) λa A↦?_
      refine zq A 15 rfl rfl rfl rfl hP (M.sub (cc (List.nil_sublist _))) λa A↦?_
      refine qf (v := .bool true) A 16 rfl rfl rfl rfl hP (M.sub (cc (List.nil_sublist _))) (fun w1 M => zr rfl rfl rfl rfl) λa A↦?_
      refine qf A 17 rfl rfl rfl rfl hP (M.sub (cc (List.nil_sublist _))) (fun w1 M => zd rfl) λa A↦?_
      refine zi (by kernel_rfl) ?_
      refine hK31 _ _ (wp_cond_true (A.ev rfl) ?_)
      refine wsk fun K35 hK35 => wrl ?_
      iterate 2 refine sda A λa A↦?_
      refine qa (hK35 _ _ (wp_ret (hret _ _ (en2 A rfl (qe rfl) (qe rfl) ?_))))
      exact ⟨by rw [vz (show gdB (ts.map Ty.k).length u.k = true by rw [List.length_map]; exact hb6) (show ¬ 0 ≤ uix (ts.map Ty.k) u.k.ui by show ¬ 0 ≤ uix (ts.map Ty.k) u.ui; omega) (show slP (ts.map Ty.k) u.k.par = false from ((uy (show 0 ≤ u.par by omega) (jg it24)).trans hc29)) (show ¬ (cnt (ts.map Ty.k) u.par + u.fs.length ≤ 16 ∧ (ts.map Ty.k).length < 4096) by rw [List.length_map]; omega)], M.bel⟩
     ·
      have hb34' := of_decide_eq_false hb34
      refine qf (v := .bool false) A 8 rfl rfl rfl rfl hP (M.sub (cc (List.nil_sublist _))) (fun w1 M => qh rfl rfl (fun w => (xf w).trans (by rw [hb34]))) λa A↦?_
      refine qf A 9 rfl rfl rfl rfl hP (M.sub (cc (List.nil_sublist _))) (fun w1 M => qt rfl) λa A↦?_
      refine qf A 10 rfl rfl rfl rfl hP (M.sub (cc (List.nil_sublist _))) (fun w1 M => qt rfl) λa A↦?_
      refine qf A 11 rfl rfl rfl rfl hP (M.sub (cc (List.nil_sublist _))) (fun w1 M => ql rfl) λa A↦?_
      refine qf (v := .pointer (some ⟨b, 0, none⟩)) A 12 rfl rfl rfl rfl hP (M.sub (cc (List.nil_sublist _))) (fun w1 M => qb RcE_fld_73_0 rfl rfl) λa A↦?_
      refine qf A 13 rfl rfl rfl rfl hP (M.sub (cc (List.nil_sublist _))) (fun w1 M => E.m_loadX M V.c0 RcE_is1_26 rfl) λa A↦?_
      refine qf (v := .int .i64 (((ts.length : Nat) : Int))) A 14 rfl rfl rfl rfl hP (M.sub (cc (List.nil_sublist _))) (fun w1 M => qr Tryz.underlying26 rfl) λa A↦?_
      rcases tf (decide (4096 ≤ ((ts.length : Nat) : Int))) with hb36 | hb36
      ·
       have hb36' := of_decide_eq_true hb36
       refine qf (v := .bool true) A 15 rfl rfl rfl rfl hP (M.sub (cc (List.nil_sublist _))) (fun w1 M => qh rfl rfl (fun w => (zt w).trans (by rw [hb36]))) λa A↦?_
       refine qf (v := .bool true) A 16 rfl rfl rfl rfl hP (M.sub (cc (List.nil_sublist _))) (fun w1 M => zr rfl rfl rfl rfl) λa A↦?_
       refine qf A 17 rfl rfl rfl rfl hP (M.sub (cc (List.nil_sublist _))) (fun w1 M => zd rfl) λa A↦?_
       refine zi (by kernel_rfl) ?_
       refine hK31 _ _ (wp_cond_true (A.ev rfl) ?_)
       refine wsk fun K37 hK37 => wrl ?_
       iterate 2 refine sda A λa A↦?_
       refine qa (hK37 _ _ (wp_ret (hret _ _ (en2 A rfl (qe rfl) (qe rfl) ?_))))
       exact ⟨by rw [vz (show gdB (ts.map Ty.k).length u.k = true by rw [List.length_map]; exact hb6) (show ¬ 0 ≤ uix (ts.map Ty.k) u.k.ui by show ¬ 0 ≤ uix (ts.map Ty.k) u.ui; omega) (show slP (ts.map Ty.k) u.k.par = false from ((uy (show 0 ≤ u.par by omega) (jg it24)).trans hc29)) (show ¬ (cnt (ts.map Ty.k) u.par + u.fs.length ≤ 16 ∧ (ts.map Ty.k).length < 4096) by rw [List.length_map]; omega)], M.bel⟩
      ·
       have hb36' := of_decide_eq_false hb36
       refine qf (v := .bool false) A 15 rfl rfl rfl rfl hP (M.sub (cc (List.nil_sublist _))) (fun w1 M => qh rfl rfl (fun w => (zt w).trans (by rw [hb36]))) λa A↦?_
       refine qf (v := .bool false) A 16 rfl rfl rfl rfl hP (M.sub (cc (List.nil_sublist _))) (fun w1 M => zr rfl rfl rfl rfl) λa A↦?_
       refine qf A 17 rfl rfl rfl rfl hP (M.sub (cc (List.nil_sublist _))) (fun w1 M => zd rfl) λa A↦?_
       refine zi (by kernel_rfl) ?_
       refine hK31 _ _ (wp_cond_false (A.ev rfl) ?_)
       refine wp_skip (hK18 _ _ (wsk fun K38 hK38 => ?_))
       rw [qea (show gdB (ts.map Ty.k).length u.k = true by rw [List.length_map]; exact hb6) (show ¬ 0 ≤ uix (ts.map Ty.k) u.k.ui by show ¬ 0 ≤ uix (ts.map Ty.k) u.ui; omega) (show slP (ts.map Ty.k) u.k.par = false from ((uy (show 0 ≤ u.par by omega) (jg it24)).trans hc29)) (show cnt (ts.map Ty.k) u.par + u.fs.length ≤ 16 ∧ (ts.map Ty.k).length < 4096 by rw [List.length_map]; omega)] at hno
       exact absurd (show true = false from hno) (by decide)
   ·
    have hb20' := bne_eq_false_iff_eq.1 hb20
    refine qf (v := .bool false) A 2 rfl rfl rfl rfl hP (M.sub (cc (List.nil_sublist _))) (fun w1 M => qh rfl rfl (fun w => (jj w).trans (by rw [hb20]))) λa A↦?_
    refine qf A 3 rfl rfl rfl rfl hP (M.sub (cc (List.nil_sublist _))) (fun w1 M => qt rfl) λa A↦?_
    refine zq A 4 rfl rfl rfl rfl hP (M.sub (cc (List.nil_sublist _))) λa A↦?_
    refine zq A 5 rfl rfl rfl rfl hP (M.sub (cc (List.nil_sublist _))) λa A↦?_
    refine zq A 6 rfl rfl rfl rfl hP (M.sub (cc (List.nil_sublist _))) λa A↦?_
    refine zq A 7 rfl rfl rfl rfl hP (M.sub (cc (List.nil_sublist _))) λa A↦?_
    refine zq A 8 rfl rfl rfl rfl hP (M.sub (cc (List.nil_sublist _))) λa A↦?_
    refine zq A 9 rfl rfl rfl rfl hP (M.sub (cc (List.nil_sublist _))) λa A↦?_
    refine zq A 10 rfl rfl rfl rfl hP (M.sub (cc (List.nil_sublist _))) λa A↦?_
    refine zq A 11 rfl rfl rfl rfl hP (M.sub (cc (List.nil_sublist _))) λa A↦?_
    refine zq A 12 rfl rfl rfl rfl hP (M.sub (cc (List.nil_sublist _))) λa A↦?_
    refine qf (v := .bool false) A 13 rfl rfl rfl rfl hP (M.sub (cc (List.nil_sublist _))) (fun w1 M => zr rfl rfl rfl rfl) λa A↦?_
    refine qf A 14 rfl rfl rfl rfl hP (M.sub (cc (List.nil_sublist _))) (fun w1 M => zd rfl) λa A↦?_
    refine zi (by kernel_rfl) ?_
    refine hK19 _ _ (wp_cond_false (A.ev rfl) ?_)
    refine wsk fun K39 hK39 => jm (S := fun w1 => Mg w w1 (.obj g2 (.cells #[.string u.nm, .int .i64 u.par, .slice u.fo u.fs.length u.fc, .slice u.mo u.ms.length u.mc, .bool u.sl, .bool u.op, .string u.ui] 33) :: [])) (by kernel_rfl) ?_
    replace M := M.drew
    refine qf A 0 rfl rfl rfl rfl hP (M.sub (cc (List.nil_sublist _))) (fun w1 M => qt rfl) λa A↦?_
    refine qf (v := .pointer (some ⟨g2, 1, none⟩)) A 1 rfl rfl rfl rfl hP (M.sub (cc (List.nil_sublist _))) (fun w1 M => qb RcE_fld_33_1 rfl rfl) λa A↦?_
    refine qf A 2 rfl rfl rfl rfl hP (M.sub (cc (List.nil_sublist _))) (fun w1 M => qj M RcE_is1_3 rfl 0 rfl rfl) λa A↦?_
    refine qf (v := .pointer (some ⟨g2, 2, none⟩)) A 4 rfl rfl rfl rfl hP (M.sub (cc (List.nil_sublist _))) (fun w1 M => qb RcE_fld_33_2 rfl rfl) λa A↦?_
    refine qf A 5 rfl rfl rfl rfl hP (M.sub (cc (List.nil_sublist _))) (fun w1 M => qj M RcE_is1_30 rfl 0 rfl rfl) λa A↦?_
    refine qf (v := .int .i64 (((u.fs.length : Nat) : Int))) A 6 rfl rfl rfl rfl hP (M.sub (cc (List.nil_sublist _))) (fun w1 M => qr Tryz.underlying30 rfl) λa A↦?_
    refine qs (by kernel_rfl) (zl A 3 rfl rfl rfl rfl (qx rfl rfl (fun w => by kernel_rfl)) (xk (V.below M.bel) hW (by omega) (by omega)) ?_)
    rintro _ w41 ⟨rfl, hb40⟩
    replace M := M.call hb40
    refine ⟨_, rfl, (M.sub (cc (List.nil_sublist _))), ?_⟩
    intro a A
    refine qf (v := .int .i64 (((cnt (ts.map Ty.k) u.par + u.fs.length : Nat) : Int))) A 7 rfl rfl rfl rfl hP (M.sub (cc (List.nil_sublist _))) (fun w1 M => qh rfl rfl (fun w => (jf (je (by omega) (by omega)) w).trans (by rw [show (((cnt (ts.map Ty.k) u.par : Nat) : Int) + ((u.fs.length : Nat) : Int) : Int) = ((cnt (ts.map Ty.k) u.par + u.fs.length : Nat) : Int) from by omega]))) λa A↦?_
    rcases tf (decide (16 < ((cnt (ts.map Ty.k) u.par + u.fs.length : Nat) : Int))) with hb42 | hb42
    ·
     have hb42' := of_decide_eq_true hb42
     refine qf (v := .bool true) A 8 rfl rfl rfl rfl hP (M.sub (cc (List.nil_sublist _))) (fun w1 M => qh rfl rfl (fun w => (xf w).trans (by rw [hb42]))) λa A↦?_
     refine qf A 9 rfl rfl rfl rfl hP (M.sub (cc (List.nil_sublist _))) (fun w1 M => qt rfl) λa A↦?_
     refine zq A 10 rfl rfl rfl rfl hP (M.sub (cc (List.nil_sublist _))) λa A↦?_
     refine zq A 11 rfl rfl rfl rfl hP (M.sub (cc (List.nil_sublist _))) λa A↦?_
     refine zq A 12 rfl rfl rfl rfl hP (M.sub (cc (List.nil_sublist _))) λa A↦?_
     refine zq A 13 rfl rfl rfl rfl hP (M.sub (cc (List.nil_sublist _))) λa A↦?_
     refine zq A 14 rfl rfl rfl rfl hP (M.sub (cc (List.nil_sublist _))) λa A↦?_
     refine zq A 15 rfl rfl rfl rfl hP (M.sub (cc (List.nil_sublist _))) λa A↦?_
     refine qf (v := .bool true) A 16 rfl rfl rfl rfl hP (M.sub (cc (List.nil_sublist _))) (fun w1 M => zr rfl rfl rfl rfl) λa A↦?_
     refine qf A 17 rfl rfl rfl rfl hP (M.sub (cc (List.nil_sublist _))) (fun w1 M => zd rfl) λa A↦?_
     refine zi (by kernel_rfl) ?_
     refine hK39 _ _ (wp_cond_true (A.ev rfl) ?_)
     refine wsk fun K43 hK43 => wrl ?_
     iterate 2 refine sda A λa A↦?_
     refine qa (hK43 _ _ (wp_ret (hret _ _ (en2 A rfl (qe rfl) (qe rfl) ?_))))
     exact ⟨by rw [vz (show gdB (ts.map Ty.k).length u.k = true by rw [List.length_map]; exact hb6) (show ¬ 0 ≤ uix (ts.map Ty.k) u.k.ui by show ¬ 0 ≤ uix (ts.map Ty.k) u.ui; omega) (show slP (ts.map Ty.k) u.k.par = false from (uz (show u.par < 0 by omega))) (show ¬ (cnt (ts.map Ty.k) u.par + u.fs.length ≤ 16 ∧ (ts.map Ty.k).length < 4096) by rw [List.length_map]; omega)], M.bel⟩
    ·
     have hb42' := of_decide_eq_false hb42
     refine qf (v := .bool false) A 8 rfl rfl rfl rfl hP (M.sub (cc (List.nil_sublist _))) (fun w1 M => qh rfl rfl (fun w => (xf w).trans (by rw [hb42]))) λa A↦?_
     refine qf A 9 rfl rfl rfl rfl hP (M.sub (cc (List.nil_sublist _))) (fun w1 M => qt rfl) λa A↦?_
     refine qf A 10 rfl rfl rfl rfl hP (M.sub (cc (List.nil_sublist _))) (fun w1 M => qt rfl) λa A↦?_
     refine qf A 11 rfl rfl rfl rfl hP (M.sub (cc (List.nil_sublist _))) (fun w1 M => ql rfl) λa A↦?_
     refine qf (v := .pointer (some ⟨b, 0, none⟩)) A 12 rfl rfl rfl rfl hP (M.sub (cc (List.nil_sublist _))) (fun w1 M => qb RcE_fld_73_0 rfl rfl) λa A↦?_
     refine qf A 13 rfl rfl rfl rfl hP (M.sub (cc (List.nil_sublist _))) (fun w1 M => E.m_loadX M V.c0 RcE_is1_26 rfl) λa A↦?_
     refine qf (v := .int .i64 (((ts.length : Nat) : Int))) A 14 rfl rfl rfl rfl hP (M.sub (cc (List.nil_sublist _))) (fun w1 M => qr Tryz.underlying26 rfl) λa A↦?_
     rcases tf (decide (4096 ≤ ((ts.length : Nat) : Int))) with hb44 | hb44
     ·
      have hb44' := of_decide_eq_true hb44
      refine qf (v := .bool true) A 15 rfl rfl rfl rfl hP (M.sub (cc (List.nil_sublist _))) (fun w1 M => qh rfl rfl (fun w => (zt w).trans (by rw [hb44]))) λa A↦?_
      refine qf (v := .bool true) A 16 rfl rfl rfl rfl hP (M.sub (cc (List.nil_sublist _))) (fun w1 M => zr rfl rfl rfl rfl) λa A↦?_
      refine qf A 17 rfl rfl rfl rfl hP (M.sub (cc (List.nil_sublist _))) (fun w1 M => zd rfl) λa A↦?_
      refine zi (by kernel_rfl) ?_
      refine hK39 _ _ (wp_cond_true (A.ev rfl) ?_)
      refine wsk fun K45 hK45 => wrl ?_
      iterate 2 refine sda A λa A↦?_
      refine qa (hK45 _ _ (wp_ret (hret _ _ (en2 A rfl (qe rfl) (qe rfl) ?_))))
      exact ⟨by rw [vz (show gdB (ts.map Ty.k).length u.k = true by rw [List.length_map]; exact hb6) (show ¬ 0 ≤ uix (ts.map Ty.k) u.k.ui by show ¬ 0 ≤ uix (ts.map Ty.k) u.ui; omega) (show slP (ts.map Ty.k) u.k.par = false from (uz (show u.par < 0 by omega))) (show ¬ (cnt (ts.map Ty.k) u.par + u.fs.length ≤ 16 ∧ (ts.map Ty.k).length < 4096) by rw [List.length_map]; omega)], M.bel⟩
     ·
      have hb44' := of_decide_eq_false hb44
      refine qf (v := .bool false) A 15 rfl rfl rfl rfl hP (M.sub (cc (List.nil_sublist _))) (fun w1 M => qh rfl rfl (fun w => (zt w).trans (by rw [hb44]))) λa A↦?_
      refine qf (v := .bool false) A 16 rfl rfl rfl rfl hP (M.sub (cc (List.nil_sublist _))) (fun w1 M => zr rfl rfl rfl rfl) λa A↦?_
      refine qf A 17 rfl rfl rfl rfl hP (M.sub (cc (List.nil_sublist _))) (fun w1 M => zd rfl) λa A↦?_
      refine zi (by kernel_rfl) ?_
      refine hK39 _ _ (wp_cond_false (A.ev rfl) ?_)
      refine wp_skip (hK18 _ _ (wsk fun K46 hK46 => ?_))
      rw [qea (show gdB (ts.map Ty.k).length u.k = true by rw [List.length_map]; exact hb6) (show ¬ 0 ≤ uix (ts.map Ty.k) u.k.ui by show ¬ 0 ≤ uix (ts.map Ty.k) u.ui; omega) (show slP (ts.map Ty.k) u.k.par = false from (uz (show u.par < 0 by omega))) (show cnt (ts.map Ty.k) u.par + u.fs.length ≤ 16 ∧ (ts.map Ty.k).length < 4096 by rw [List.length_map]; omega)] at hno
      exact absurd (show true = false from hno) (by decide)
 ·
  refine gcl A M (ef rfl rfl) (yt (V.below M.bel) hW (hU.below M.bel) hul huz hb6) fun w48 hb47 M a A => ?_
  refine sdo (v := .bool true) A (zv rfl ji) λa A↦?_
  refine sdk (v := .bool true) A λa A↦?_
  refine qa (hK5 _ _ (wp_cond_true (A.ev rfl) ?_))
  refine wsk fun K49 hK49 => wrl ?_
  iterate 2 refine sda A λa A↦?_
  refine qa (hK49 _ _ (wp_ret (hret _ _ (en2 A rfl (qe rfl) (qe rfl) ?_))))
  exact ⟨by rw [tyS_bad (show gdB (ts.map Ty.k).length u.k = false by rw [List.length_map]; exact hb6)], M.bel⟩
theorem make_no {w : World} {b tc rc : Nat} {tz ro : Option Addr} {ts : List Ty} {rs : List Rk} (V : SR w b tz tc ts ro rc rs) (hW : WS (ts.map Ty.k) (rs.map Rk.k)) {vo : Option Addr} {vc : Nat} {vs : List Dt} (hV : Rt w vo vs) (hD : ∀ d ∈ vs, d.rd w) (hvl : vs.length ≤ 1000000000) (hT : Tabs8 w) {t : Int} (hno : (mkS (ts.map Ty.k) rs.length t (vs.map Dt.tr)).2.2 = false) : Calls Tryz.prog 10 #[.pointer (some ⟨b, 0, none⟩), .int .i64 t, .slice vo vs.length vc] w fun e w' => e = .returned (.tuple #[.int .i64 (mkS (ts.map Ty.k) rs.length t (vs.map Dt.tr)).1, .int .i64 (mkS (ts.map Ty.k) rs.length t (vs.map Dt.tr)).2.1]) ∧ Below w.heap.size w w' := by
 have hkl := hW.kl
 have hrl := hW.rl
 rw [List.length_map] at hkl hrl
 have M : Mg w w ([]) := Mg.start w
 refine qm (l := [(0, .pointer (some ⟨b, 0, none⟩)), (1, .int .i64 t), (2, .slice vo vs.length vc)]) Tryz.func10 rfl Tryz.ntmps10 rfl rfl ?_
 intro Q hret hnorm hP a A
 refine wsk fun K1 hK1 => wrl ?_
 iterate 2 refine sda A λa A↦?_
 refine qa (hK1 _ _ (wsk fun K2 hK2 => wrl ?_))
 iterate 2 refine sdm A λa A↦?_
 rcases tf (okT ts.length t) with hb3 | hb3
 ·
  have hx5 := kf hb3
  refine gcl A M (ef rfl rfl) (vb (V.below M.bel) hW hb3) fun w6 hb4 M a A => ?_
  refine sda A λa A↦?_
  refine qa (hK2 _ _ (wsk fun K7 hK7 => wp_block (wsk fun K8 hK8 => wrl (sdm A λa A↦?_))))
  refine sdo (v := .bool false) A (qh rfl rfl (fun w => by kernel_rfl)) λa A↦?_
  refine sda A λa A↦?_
  refine qa (hK8 _ _ (wp_cond_false (A.ev rfl) ?_))
  refine wsk fun K9 hK9 => wrl (sdm A λa A↦?_)
  refine sdo A (qr Tryz.underlying34 rfl) λa A↦?_
  iterate 2 refine sdm A λa A↦?_
  refine gcl A M (ef rfl rfl) (xk (V.below M.bel) hW (by omega) (by omega)) fun w11 hb10 M a A => ?_
  rcases tf ((((vs.length : Nat) : Int) != ((cnt (ts.map Ty.k) t : Nat) : Int))) with hb12 | hb12
  ·
   have hb12' := bne_iff_ne.1 hb12
   refine sdc A jj hb12 λa A↦?_
   refine sda A λa A↦?_
   refine qa (hK9 _ _ (wp_cond_true (A.ev rfl) ?_))
   refine wsk fun K13 hK13 => wrl ?_
   iterate 2 refine sda A λa A↦?_
   refine qa (hK13 _ _ (wp_ret (hret _ _ (en2 A rfl (qe rfl) (qe rfl) ?_))))
   exact ⟨by rw [mkS_arg hb3 (show (vs.map Dt.tr).length ≠ cnt (ts.map Ty.k) t by rw [List.length_map]; omega)], M.bel⟩
  ·
   have hb12' := bne_eq_false_iff_eq.1 hb12
   refine sdc A jj hb12 λa A↦?_
   refine sda A λa A↦?_
   refine qa (hK9 _ _ (wp_cond_false (A.ev rfl) ?_))
   refine wsk fun K14 hK14 => wrl (sdm A λa A↦?_)
   rcases tf ((vs.map Dt.tr).all (jp ja)) with hb15 | hb15
   ·
    refine gcl A M (ef rfl rfl) (vx (hV.below M.bel) (fun d hd => Dt.keep M.bel _ (hD d hd)) hvl (hT.below M.bel) hb15) fun w17 hb16 M a A => ?_
    refine sda A λa A↦?_
    refine qa (hK14 _ _ (wp_cond_false (A.ev rfl) ?_))
    refine wsk fun K18 hK18 => wrl (sdm A λa A↦?_)
    refine sdo A (ql rfl) λa A↦?_
    refine sdo (v := .pointer (some ⟨b, 1, none⟩)) A (qb RcE_fld_73_1 rfl rfl) λa A↦?_
    refine sdo A (E.m_loadX M V.c1 RcE_is1_71 rfl) λa A↦?_
    refine sdo A (qr Tryz.underlying71 rfl) λa A↦?_
    rcases tf (decide (20000 ≤ ((rs.length : Nat) : Int))) with hb19 | hb19
    ·
     have hb19' := of_decide_eq_true hb19
     refine sdc A zt hb19 λa A↦?_
     refine sda A λa A↦?_
     refine qa (hK18 _ _ (wp_cond_true (A.ev rfl) ?_))
     refine wsk fun K20 hK20 => wrl ?_
     iterate 2 refine sda A λa A↦?_
     refine qa (hK20 _ _ (wp_ret (hret _ _ (en2 A rfl (qe rfl) (qe rfl) ?_))))
     exact ⟨by rw [mkS_full hb3 (show (vs.map Dt.tr).length = cnt (ts.map Ty.k) t by rw [List.length_map]; omega) hb15 (by omega)], M.bel⟩
    ·
     have hb19' := of_decide_eq_false hb19
     refine sdc A zt hb19 λa A↦?_
     refine sda A λa A↦?_
     refine qa (hK18 _ _ (wp_cond_false (A.ev rfl) ?_))
     refine wp_skip (hK7 _ _ (wsk fun K21 hK21 => ?_))
     rw [mkS_ok hb3 (show (vs.map Dt.tr).length = cnt (ts.map Ty.k) t by rw [List.length_map]; omega) hb15 (by omega)] at hno
     exact absurd (show true = false from hno) (by decide)
   ·
    refine gcl A M (ef rfl rfl) (vx (hV.below M.bel) (fun d hd => Dt.keep M.bel _ (hD d hd)) hvl (hT.below M.bel) hb15) fun w23 hb22 M a A => ?_
    refine sda A λa A↦?_
    refine qa (hK14 _ _ (wp_cond_true (A.ev rfl) ?_))
    refine wsk fun K24 hK24 => wrl ?_
    iterate 2 refine sda A λa A↦?_
    refine qa (hK24 _ _ (wp_ret (hret _ _ (en2 A rfl (qe rfl) (qe rfl) ?_))))
    exact ⟨by rw [mkS_form hb3 (show (vs.map Dt.tr).length = cnt (ts.map Ty.k) t by rw [List.length_map]; omega) hb15], M.bel⟩
 ·
  have hx26 := qld hb3
  refine gcl A M (ef rfl rfl) (vw (V.below M.bel) hW hb3) fun w27 hb25 M a A => ?_
  refine sda A λa A↦?_
  refine qa (hK2 _ _ (wsk fun K28 hK28 => wp_block (wsk fun K29 hK29 => wrl (sdm A λa A↦?_))))
  refine sdo (v := .bool true) A (qh rfl rfl (fun w => by kernel_rfl)) λa A↦?_
  refine sda A λa A↦?_
  refine qa (hK29 _ _ (wp_cond_true (A.ev rfl) ?_))
  refine wsk fun K30 hK30 => wrl (sdm A λa A↦?_)
  iterate 2 refine sda A λa A↦?_
  refine qa (hK30 _ _ (wp_ret (hret _ _ (en2 A rfl (qe rfl) (qe rfl) ?_))))
  exact ⟨by rw [mkS_no hb3], M.bel⟩
theorem vd {w : World} {t : Int} : Calls Tryz.prog 32 #[.pointer none, .int .i64 t] w fun e w' => e = .returned (.int .i64 1) ∧ Below w.heap.size w w' := by
 have M : Mg w w ([]) := Mg.start w
 refine qm (l := [(0, .pointer none), (1, .int .i64 t)]) Tryz.func32 rfl Tryz.ntmps32 rfl rfl ?_
 intro Q hret hnorm hP a A
 refine wsk fun K1 hK1 => wrl (sda A λa A↦?_)
 refine qa (hK1 _ _ (wsk fun K2 hK2 => wp_block (wsk fun K3 hK3 => wrl (sdm A λa A↦?_))))
 refine sdo (v := .bool true) A (qh rfl rfl (fun w => by kernel_rfl)) λa A↦?_
 refine sda A λa A↦?_
 refine qa (hK3 _ _ (wp_cond_true (A.ev rfl) ?_))
 refine wsk fun K4 hK4 => wrl (sda A λa A↦?_)
 refine qa (hK4 _ _ (wp_ret (hret _ _ (en1 A rfl (qe rfl) ?_))))
 exact ⟨rfl, M.bel⟩
theorem vn {w : World} {t : Int} : Calls Tryz.prog 42 #[.pointer none, .int .i64 t] w fun e w' => e = .returned (.int .i64 1) ∧ Below w.heap.size w w' := by
 have M : Mg w w ([]) := Mg.start w
 refine qm (l := [(0, .pointer none), (1, .int .i64 t)]) Tryz.func42 rfl Tryz.ntmps42 rfl rfl ?_
 intro Q hret hnorm hP a A
 refine wsk fun K1 hK1 => wrl (sda A λa A↦?_)
 refine qa (hK1 _ _ (wsk fun K2 hK2 => wp_block (wsk fun K3 hK3 => wrl (sdm A λa A↦?_))))
 refine sdo (v := .bool true) A (qh rfl rfl (fun w => by kernel_rfl)) λa A↦?_
 refine sda A λa A↦?_
 refine qa (hK3 _ _ (wp_cond_true (A.ev rfl) ?_))
 refine wsk fun K4 hK4 => wrl (sda A λa A↦?_)
 refine qa (hK4 _ _ (wp_ret (hret _ _ (en1 A rfl (qe rfl) ?_))))
 exact ⟨rfl, M.bel⟩
theorem is_nil {w : World} {r t : Int} : Calls Tryz.prog 18 #[.pointer none, .int .i64 r, .int .i64 t] w fun e w' => e = .returned (.tuple #[.bool false, .int .i64 1]) ∧ Below w.heap.size w w' := by
 have M : Mg w w ([]) := Mg.start w
 refine qm (l := [(0, .pointer none), (1, .int .i64 r), (2, .int .i64 t)]) Tryz.func18 rfl Tryz.ntmps18 rfl rfl ?_
 intro Q hret hnorm hP a A
 refine wsk fun K1 hK1 => wrl ?_
 iterate 2 refine sda A λa A↦?_
 refine qa (hK1 _ _ (wsk fun K2 hK2 => wsk fun K3 hK3 => wrl ?_))
 iterate 2 refine sdm A λa A↦?_
 refine gcl A M (ef rfl rfl) (vn) fun w4 hbn M a A => ?_
 refine sda A λa A↦?_
 refine qa (hK3 _ _ (wsk fun K5 hK5 => wrl (sdm A λa A↦?_)))
 refine sdo (v := .bool true) A (qh rfl rfl (fun w => by kernel_rfl)) λa A↦?_
 refine qa (hK5 _ _ (wp_cond_true (A.ev rfl) ?_))
 refine wsk fun K6 hK6 => wrl (sdm A λa A↦?_)
 iterate 2 refine sda A λa A↦?_
 refine qa (hK6 _ _ (wp_ret (hret _ _ (en2 A rfl (qe rfl) (qe rfl) ?_))))
 exact ⟨rfl, M.bel⟩
theorem qcc {w : World} {r t i : Int} : Calls Tryz.prog 37 #[.pointer none, .int .i64 r, .int .i64 t, .int .i64 i] w fun e w' => e = .returned (.tuple #[.int .i64 0, .int .i64 1]) ∧ Below w.heap.size w w' := by
 have M : Mg w w ([]) := Mg.start w
 refine qm (l := [(0, .pointer none), (1, .int .i64 r), (2, .int .i64 t), (3, .int .i64 i)]) Tryz.func37 rfl Tryz.ntmps37 rfl rfl ?_
 intro Q hret hnorm hP a A
 refine wsk fun K1 hK1 => wrl ?_
 iterate 2 refine sda A λa A↦?_
 refine qa (hK1 _ _ (wsk fun K2 hK2 => wrl ?_))
 iterate 3 refine sdm A λa A↦?_
 refine gcl A M (ef rfl rfl) (is_nil) fun w3 hbn M a A => ?_
 refine sdm A λa A↦?_
 iterate 2 refine sdo A (za (vs := [.bool false, .int .i64 1]) rfl rfl) λa A↦?_
 iterate 2 refine sda A λa A↦?_
 refine qa (hK2 _ _ (wsk fun K4 hK4 => wp_block (wsk fun K5 hK5 => wrl (sdm A λa A↦?_))))
 refine sdo (v := .bool true) A (qh rfl rfl (fun w => by kernel_rfl)) λa A↦?_
 refine sda A λa A↦?_
 refine qa (hK5 _ _ (wp_cond_true (A.ev rfl) ?_))
 refine wsk fun K6 hK6 => wrl (sdm A λa A↦?_)
 iterate 2 refine sda A λa A↦?_
 refine qa (hK6 _ _ (wp_ret (hret _ _ (en2 A rfl (qe rfl) (qe rfl) ?_))))
 exact ⟨rfl, M.bel⟩
theorem type_nil {w : World} {u : Ty} : Calls Tryz.prog 8 #[.pointer none, .agg #[.string u.nm, .int .i64 u.par, .slice u.fo u.fs.length u.fc, .slice u.mo u.ms.length u.mc, .bool u.sl, .bool u.op, .string u.ui]] w fun e w' => e = .returned (.tuple #[.int .i64 0, .int .i64 1]) ∧ Below w.heap.size w w' := by
 have M : Mg w w ([]) := Mg.start w
 refine qm (l := [(0, .pointer none), (1, .agg #[.string u.nm, .int .i64 u.par, .slice u.fo u.fs.length u.fc, .slice u.mo u.ms.length u.mc, .bool u.sl, .bool u.op, .string u.ui])]) Tryz.func8 rfl Tryz.ntmps8 rfl rfl ?_
 intro Q hret hnorm hP a A
 refine wsk fun K1 hK1 => wrl (zp (vs := [.string u.nm, .int .i64 u.par, .slice u.fo u.fs.length u.fc, .slice u.mo u.ms.length u.mc, .bool u.sl, .bool u.op, .string u.ui]) (t := 33) A M rfl rfl rfl pg (zh rfl rfl) (by decide) ?_)
 intro g2 w3 M a A
 iterate 2 refine sda A λa A↦?_
 refine qa (hK1 _ _ (wsk fun K4 hK4 => wsk fun K5 hK5 => wrl (sdm A λa A↦?_)))
 refine sdo (v := .bool true) A (qh rfl rfl (fun w => by kernel_rfl)) λa A↦?_
 refine sdm A λa A↦?_
 iterate 4 refine qn A rfl rfl rfl λa A↦?_
 refine sdk (v := .bool true) A λa A↦?_
 refine qa (hK5 _ _ (wp_cond_true (A.ev rfl) ?_))
 refine wsk fun K6 hK6 => wrl ?_
 iterate 2 refine sda A λa A↦?_
 refine qa (hK6 _ _ (wp_ret (hret _ _ (en2 A rfl (qe rfl) (qe rfl) ?_))))
 exact ⟨rfl, M.bel⟩
theorem rtd_nil {w : World} {t : Int} : Calls Tryz.prog 23 #[.pointer none, .int .i64 t] w fun e w' => e = .returned (.tuple #[.agg #[.string (⟨#[]⟩), .int .i64 0, .slice none 0 0, .slice none 0 0, .bool false, .bool false, .string (⟨#[]⟩)], .int .i64 1]) ∧ Below w.heap.size w w' := by
 have M : Mg w w ([]) := Mg.start w
 refine qm (l := [(0, .pointer none), (1, .int .i64 t)]) Tryz.func23 rfl Tryz.ntmps23 rfl rfl ?_
 intro Q hret hnorm hP a A
 refine wsk fun K1 hK1 => wrl (zp (vs := [.string (⟨#[]⟩), .int .i64 0, .slice none 0 0, .slice none 0 0, .bool false, .bool false, .string (⟨#[]⟩)]) (t := 33) A M rfl rfl rfl pg (zg (z := .agg #[.string (⟨#[]⟩), .int .i64 0, .slice none 0 0, .slice none 0 0, .bool false, .bool false, .string (⟨#[]⟩)]) (by kernel_rfl) rfl) (by decide) ?_)
 intro g2 w3 M a A
 refine sda A λa A↦?_
 refine qa (hK1 _ _ (wsk fun K4 hK4 => wsk fun K5 hK5 => wrl ?_))
 iterate 2 refine sdm A λa A↦?_
 refine gcl A M (ef rfl rfl) (vd) fun w6 hbn M a A => ?_
 refine sda A λa A↦?_
 refine qa (hK5 _ _ (wsk fun K7 hK7 => wrl (sdm A λa A↦?_)))
 refine sdo (v := .bool true) A (qh rfl rfl (fun w => by kernel_rfl)) λa A↦?_
 refine qa (hK7 _ _ (wp_cond_true (A.ev rfl) ?_))
 refine wsk fun K8 hK8 => wrl (sdo (v := .agg #[.string (⟨#[]⟩), .int .i64 0, .slice none 0 0, .slice none 0 0, .bool false, .bool false, .string (⟨#[]⟩)]) A (zk rfl (fun w => by kernel_rfl)) λa A↦?_)
 refine sdm A λa A↦?_
 refine zf (us := [.string (⟨#[]⟩), .int .i64 0, .slice none 0 0, .slice none 0 0, .bool false, .bool false, .string (⟨#[]⟩)]) (L' := (.obj g2 (.cells #[.string (⟨#[]⟩), .int .i64 0, .slice none 0 0, .slice none 0 0, .bool false, .bool false, .string (⟨#[]⟩)] 33) :: [])) A M rfl rfl (qy rfl rfl rfl (by kernel_rfl) M 0 rfl rfl rfl) 0 rfl rfl rfl ?_
 intro w9 M
 refine sda A λa A↦?_
 refine qa (hK8 _ _ (wp_ret (hret _ _ (en2 A rfl (jk M RcE_isS_33 rfl 0 rfl (cs := [.string (⟨#[]⟩), .int .i64 0, .slice none 0 0, .slice none 0 0, .bool false, .bool false, .string (⟨#[]⟩)]) rfl rfl) (qe rfl) ?_))))
 exact ⟨rfl, M.bel⟩
theorem qjf {w : World} {t : Int} : Calls Tryz.prog 22 #[.pointer none, .int .i64 t] w fun e w' => e = .returned (.tuple #[.int .i64 0, .int .i64 1]) ∧ Below w.heap.size w w' := by
 have M : Mg w w ([]) := Mg.start w
 refine qm (l := [(0, .pointer none), (1, .int .i64 t)]) Tryz.func22 rfl Tryz.ntmps22 rfl rfl ?_
 intro Q hret hnorm hP a A
 refine wsk fun K1 hK1 => wrl ?_
 iterate 2 refine sda A λa A↦?_
 refine qa (hK1 _ _ (wsk fun K2 hK2 => wsk fun K3 hK3 => wrl ?_))
 iterate 2 refine sdm A λa A↦?_
 refine gcl A M (ef rfl rfl) (vd) fun w4 hbn M a A => ?_
 refine sda A λa A↦?_
 refine qa (hK3 _ _ (wsk fun K5 hK5 => wrl (sdm A λa A↦?_)))
 refine sdo (v := .bool true) A (qh rfl rfl (fun w => by kernel_rfl)) λa A↦?_
 refine qa (hK5 _ _ (wp_cond_true (A.ev rfl) ?_))
 refine wsk fun K6 hK6 => wrl (sdm A λa A↦?_)
 iterate 2 refine sda A λa A↦?_
 refine qa (hK6 _ _ (wp_ret (hret _ _ (en2 A rfl (qe rfl) (qe rfl) ?_))))
 exact ⟨rfl, M.bel⟩
theorem make_nil {w : World} {t : Int} {vo : Option Addr} {vc : Nat} {vs : List Dt} : Calls Tryz.prog 10 #[.pointer none, .int .i64 t, .slice vo vs.length vc] w fun e w' => e = .returned (.tuple #[.int .i64 0, .int .i64 1]) ∧ Below w.heap.size w w' := by
 have M : Mg w w ([]) := Mg.start w
 refine qm (l := [(0, .pointer none), (1, .int .i64 t), (2, .slice vo vs.length vc)]) Tryz.func10 rfl Tryz.ntmps10 rfl rfl ?_
 intro Q hret hnorm hP a A
 refine wsk fun K1 hK1 => wrl ?_
 iterate 2 refine sda A λa A↦?_
 refine qa (hK1 _ _ (wsk fun K2 hK2 => wrl ?_))
 iterate 2 refine sdm A λa A↦?_
 refine gcl A M (ef rfl rfl) (vd) fun w3 hbn M a A => ?_
 refine sda A λa A↦?_
 refine qa (hK2 _ _ (wsk fun K4 hK4 => wp_block (wsk fun K5 hK5 => wrl (sdm A λa A↦?_))))
 refine sdo (v := .bool true) A (qh rfl rfl (fun w => by kernel_rfl)) λa A↦?_
 refine sda A λa A↦?_
 refine qa (hK5 _ _ (wp_cond_true (A.ev rfl) ?_))
 refine wsk fun K6 hK6 => wrl (sdm A λa A↦?_)
 iterate 2 refine sda A λa A↦?_
 refine qa (hK6 _ _ (wp_ret (hret _ _ (en2 A rfl (qe rfl) (qe rfl) ?_))))
 exact ⟨rfl, M.bel⟩
theorem get_nil {w : World} {r t i : Int} : Calls Tryz.prog 13 #[.pointer none, .int .i64 r, .int .i64 t, .int .i64 i] w fun e w' => e = .returned (.tuple #[.agg (zm.d.cells zm.ts.length).toArray, .int .i64 1]) ∧ Below w.heap.size w w' := by
 have M : Mg w w ([]) := Mg.start w
 refine qm (l := [(0, .pointer none), (1, .int .i64 r), (2, .int .i64 t), (3, .int .i64 i)]) Tryz.func13 rfl Tryz.ntmps13 rfl rfl ?_
 intro Q hret hnorm hP a A
 refine wsk fun K1 hK1 => wrl (zp (vs := (zm.d.cells zm.ts.length)) (t := 42) A M rfl rfl rfl pg (zg (z := .agg (zm.d.cells zm.ts.length).toArray) (by kernel_rfl) rfl) (by decide) ?_)
 intro g2 w3 M a A
 refine sda A λa A↦?_
 refine qa (hK1 _ _ (wsk fun K4 hK4 => wrl ?_))
 iterate 4 refine sdm A λa A↦?_
 refine gcl A M (ef rfl rfl) (qcc) fun w5 hbn M a A => ?_
 refine sdm A λa A↦?_
 iterate 2 refine sdo A (za (vs := [.int .i64 0, .int .i64 1]) rfl rfl) λa A↦?_
 iterate 2 refine sda A λa A↦?_
 refine qa (hK4 _ _ (wsk fun K6 hK6 => wsk fun K7 hK7 => wrl (sdm A λa A↦?_)))
 refine sdo (v := .bool true) A (qh rfl rfl (fun w => by kernel_rfl)) λa A↦?_
 refine qa (hK7 _ _ (wp_cond_true (A.ev rfl) ?_))
 refine wsk fun K8 hK8 => wrl (sdo (v := .agg (zm.d.cells zm.ts.length).toArray) A (zk rfl (fun w => by kernel_rfl)) λa A↦?_)
 refine sdm A λa A↦?_
 refine zf (us := (zm.d.cells zm.ts.length)) (L' := (.obj g2 (.cells (zm.d.cells zm.ts.length).toArray 42) :: [])) A M rfl rfl (qy rfl rfl rfl (by kernel_rfl) M 0 rfl rfl rfl) 0 rfl rfl rfl ?_
 intro w9 M
 refine sda A λa A↦?_
 refine qa (hK8 _ _ (wp_ret (hret _ _ (en2 A rfl (jk M RcE_isS_42 rfl 0 rfl (cs := [.int .i64 0, .int .i64 0, .bool false, .slice none 0 0, .slice none 0 0, .bool false, .slice none 0 0, .slice none 0 0, .string (⟨#[]⟩), .slice none 0 0, .slice none 0 0]) rfl rfl) (qe rfl) ?_))))
 exact ⟨rfl, M.bel⟩
theorem set_nil {w : World} {r t i : Int} {v : Dt} : Calls Tryz.prog 16 #[.pointer none, .int .i64 r, .int .i64 t, .int .i64 i, .agg (v.d.cells v.ts.length).toArray] w fun e w' => e = .returned (.int .i64 1) ∧ Below w.heap.size w w' := by
 have M : Mg w w ([]) := Mg.start w
 refine qm (l := [(0, .pointer none), (1, .int .i64 r), (2, .int .i64 t), (3, .int .i64 i), (4, .agg (v.d.cells v.ts.length).toArray)]) Tryz.func16 rfl Tryz.ntmps16 rfl rfl ?_
 intro Q hret hnorm hP a A
 refine wsk fun K1 hK1 => wrl (zp (vs := (v.d.cells v.ts.length)) (t := 42) A M rfl rfl rfl pg (zh rfl rfl) (by decide) ?_)
 intro g2 w3 M a A
 refine sda A λa A↦?_
 refine qa (hK1 _ _ (wsk fun K4 hK4 => wrl ?_))
 iterate 4 refine sdm A λa A↦?_
 refine gcl A M (ef rfl rfl) (qcc) fun w5 hbn M a A => ?_
 refine sdm A λa A↦?_
 iterate 2 refine sdo A (za (vs := [.int .i64 0, .int .i64 1]) rfl rfl) λa A↦?_
 iterate 2 refine sda A λa A↦?_
 refine qa (hK4 _ _ (wsk fun K6 hK6 => wp_block (wsk fun K7 hK7 => wrl (sdm A λa A↦?_))))
 refine sdo (v := .bool true) A (qh rfl rfl (fun w => by kernel_rfl)) λa A↦?_
 refine sda A λa A↦?_
 refine qa (hK7 _ _ (wp_cond_true (A.ev rfl) ?_))
 refine wsk fun K8 hK8 => wrl (sdm A λa A↦?_)
 refine sda A λa A↦?_
 refine qa (hK8 _ _ (wp_ret (hret _ _ (en1 A rfl (qe rfl) ?_))))
 exact ⟨rfl, M.bel⟩
theorem qjg {w : World} {r : Int} : Calls Tryz.prog 20 #[.pointer none, .int .i64 r] w fun e w' => e = .returned (.tuple #[.int .i64 0, .int .i64 1]) ∧ Below w.heap.size w w' := by
 have M : Mg w w ([]) := Mg.start w
 refine qm (l := [(0, .pointer none), (1, .int .i64 r)]) Tryz.func20 rfl Tryz.ntmps20 rfl rfl ?_
 intro Q hret hnorm hP a A
 refine wsk fun K1 hK1 => wrl ?_
 iterate 2 refine sda A λa A↦?_
 refine qa (hK1 _ _ (wsk fun K2 hK2 => wsk fun K3 hK3 => wrl ?_))
 iterate 2 refine sdm A λa A↦?_
 refine gcl A M (ef rfl rfl) (vn) fun w4 hbn M a A => ?_
 refine sda A λa A↦?_
 refine qa (hK3 _ _ (wsk fun K5 hK5 => wrl (sdm A λa A↦?_)))
 refine sdo (v := .bool true) A (qh rfl rfl (fun w => by kernel_rfl)) λa A↦?_
 refine qa (hK5 _ _ (wp_cond_true (A.ev rfl) ?_))
 refine wsk fun K6 hK6 => wrl (sdm A λa A↦?_)
 iterate 2 refine sda A λa A↦?_
 refine qa (hK6 _ _ (wp_ret (hret _ _ (en2 A rfl (qe rfl) (qe rfl) ?_))))
 exact ⟨rfl, M.bel⟩
theorem qlj {ps : List Int} (hw : Wf ps) (q : List Int) : ∀ (n : Nat) (t : Int), t < ((ps.length : Nat) : Int) → chn (ps ++ q) n t = chn ps n t
  | 0, t, _ => rfl
  | n + 1, t, ht => by
    rw [chn, chn]
    by_cases h : t < 0
    · rw [if_pos h, if_pos h]
    · rw [if_neg h, if_neg h]
      have e : (ps ++ q).getD t.toNat (-1) = ps.getD t.toNat (-1) := by
        rw [List.getD_eq_getElem?_getD, List.getD_eq_getElem?_getD, List.getElem?_append_left (by omega)]
      have := hw.at_ (t := t) (by omega)
      rw [e, qlj hw q n _ (by omega)]
theorem chT_app {ps : List Int} (hw : Wf ps) (q : List Int) {t : Int} (ht : t < ((ps.length : Nat) : Int)) : chT (ps ++ q) t = chT ps t := qlj hw q _ t ht
theorem qma (ks : List TK) : (prs ks).length = ks.length := List.length_map _
theorem qeh {ks : List TK} (hw : Wf (prs ks)) (u : TK) {t : Int} (ht : t < ((ks.length : Nat) : Int)) : cnt (ks ++ [u]) t = cnt ks t := by
  unfold cnt
  rw [show prs (ks ++ [u]) = prs ks ++ [u.par] from List.map_append, chT_app hw _ (by rw [qma]; exact ht)]
  unfold qah
  congr 1
  refine List.map_congr_left fun x hx => ?_
  have := qdj hw hx
  unfold nfs
  rw [List.getElem?_append_left (by omega)]
theorem wf_app {ps : List Int} (hw : Wf ps) {p : Int} (h0 : -1 ≤ p) (h1 : p < ((ps.length : Nat) : Int)) : Wf (ps ++ [p]) := by
  intro i q h
  by_cases hi : i < ps.length
  · rw [List.getElem?_append_left hi] at h; exact hw i q h
  · rw [List.getElem?_append_right (by omega)] at h
    have hl := (List.getElem?_eq_some_iff.1 h).1
    simp only [List.length_cons, List.length_nil] at hl
    rw [show i - ps.length = 0 by omega] at h
    cases h
    omega
theorem ws_type {ks : List TK} {rr : List (Nat × List Tr)} (hW : WS ks rr) {u : TK} (hn : (tyS ks u).2.2 = true) (hz : u.nm.size ≤ 281474976710656 ∧ u.ui.size ≤ 281474976710656 ∧ ∀ s ∈ u.fs, s.size ≤ 281474976710656) : WS (ks ++ [u]) rr := by
  have key : gdB ks.length u = true ∧ cnt ks u.par + u.fs.length ≤ 16 ∧ ks.length < 4096 := by
    unfold tyS at hn
    split at hn
    · rename_i hg
      split at hn
      · split at hn <;> cases hn
      · split at hn
        · cases hn
        · split at hn
          · rename_i h; exact ⟨hg, h⟩
          · cases hn
    · cases hn
  obtain ⟨hg, hc, hl⟩ := key
  obtain ⟨g1, g2, g3, g4⟩ := gd_t hg
  have hwf : Wf (prs (ks ++ [u])) := by
    rw [show prs (ks ++ [u]) = prs ks ++ [u.par] from List.map_append]
    exact wf_app hW.wf g3 (by rw [qma]; exact g4)
  refine ⟨hwf, ?_, ?_, by rw [List.length_append]; show ks.length + 1 ≤ 4096; omega, ?_, hW.rl, hW.bk, ?_⟩
  · intro k hk
    rcases List.mem_append.1 hk with h | h
    · exact hW.ml k h
    · rw [List.mem_singleton.1 h]; exact g1
  · intro i hi
    rw [List.length_append] at hi
    by_cases h : i < ks.length
    · rw [qeh hW.wf u (by omega)]; exact hW.fl i h
    · have hi2 : i = ks.length := by simp only [List.length_cons, List.length_nil] at hi; omega
      subst hi2
      have e : (ks ++ [u])[((ks.length : Nat) : Int).toNat]? = some u := by
        rw [Int.toNat_natCast, List.getElem?_append_right (Nat.le_refl _), Nat.sub_self]; rfl
      rw [ux hwf (by omega) e, qeh hW.wf u g4]
      omega
  · intro r hr
    have := hW.rk r hr
    rw [List.length_append, qeh hW.wf u (by omega)]
    exact ⟨by omega, this.2⟩
  · intro k hk
    rcases List.mem_append.1 hk with h | h
    · exact hW.zs k h
    · rw [List.mem_singleton.1 h]; exact hz
theorem ws_make {ks : List TK} {rr : List (Nat × List Tr)} (hW : WS ks rr) {t : Int} {vs : List Tr} (hn : (mkS ks rr.length t vs).2.2 = true) (hb : ∀ d ∈ vs, d.bulk ≤ 1000000000) : WS ks (rr ++ [(t.toNat, vs)]) := by
  have key : okT ks.length t = true ∧ vs.length = cnt ks t ∧ rr.length < 20000 := by
    unfold mkS at hn
    split at hn
    · rename_i h1
      split at hn
      · rename_i h2
        split at hn
        · split at hn
          · rename_i h3; exact ⟨h1, h2, h3⟩
          · cases hn
        · cases hn
      · cases hn
    · cases hn
  obtain ⟨h1, h2, h3⟩ := key
  have h4 := kf h1
  refine ⟨hW.wf, hW.ml, hW.fl, hW.kl, ?_, by rw [List.length_append]; show rr.length + 1 ≤ 20000; omega, ?_, hW.zs⟩
  · intro r hr
    rcases List.mem_append.1 hr with h | h
    · exact hW.rk r h
    · rw [List.mem_singleton.1 h]
      refine ⟨by show t.toNat < _; omega, ?_⟩
      show vs.length = cnt ks ((t.toNat : Nat) : Int)
      rw [show ((t.toNat : Nat) : Int) = t by omega]; exact h2
  · intro r hr
    rcases List.mem_append.1 hr with h | h
    · exact hW.bk r h
    · rw [List.mem_singleton.1 h]; exact hb
theorem ws_nil : WS [] [] := ⟨fun i p h => by simp [prs] at h, fun k h => (by cases h), fun i h => (by simp at h), by simp, fun r h => (by cases h), by simp, fun r h => (by cases h), fun k h => (by cases h)⟩
theorem bulk_each {vs : List Tr} (h : Tr.bulks vs ≤ 1000000000) : ∀ d ∈ vs, d.bulk ≤ 1000000000 := fun d hd => Nat.le_trans (yk hd) h
section
variable {P : Program} {w0 w : World} {L : List Ck} {l : List (Nat × Value)} {dst : Option Tmp} {ty : TypeId} {pos : String} {after : Array Edge} {guard : Option (Nat × Bool)}
end
structure Pst where
 tz : Option Addr
 tc : Nat
 ts : List Ty
 ro : Option Addr
 rc : Nat
 rs : List Rk
def Rk.row (r : Rk) : Ck := .row 42 11 (.slice r.vo r.vs.length r.vc) r.vs.length (cellsOf r.vs)
def Pst.head (P : Pst) (b : Nat) : List Ck := [(.obj b (.cells #[.slice P.tz P.ts.length P.tc, .slice P.ro P.rs.length P.rc] 73)), .row 33 7 (.slice P.tz P.ts.length P.tc) P.ts.length (qg Ty.c P.ts), .row 86 2 (.slice P.ro P.rs.length P.rc) P.rs.length (qg Rk.c P.rs)]
def Pst.pcs (P : Pst) (b : Nat) : List Ck := P.head b ++ P.rs.map Rk.row
def Pst.ks (P : Pst) : List TK := P.ts.map Ty.k
def Pst.rr (P : Pst) : List (Nat × List Tr) := P.rs.map Rk.k
structure PL (w0 : World) (X : List Ck) (P : Pst) : Prop where
 ty : ∀ t ∈ P.ts, ∀ w, Mg w0 w X → TyR w t
 da : ∀ r ∈ P.rs, ∀ d ∈ r.vs, ∀ w, Mg w0 w X → d.rd w
 ws : WS P.ks P.rr
 nb : jb X
section
variable {w0 w : World} {b : Nat} {P : Pst} {EE X : List Ck}
theorem qgh (rs : List Rk) : jb (rs.map Rk.row) := fun c hc b bs e => by
 obtain ⟨r, _, h⟩ := List.mem_map.1 hc
 rw [← h] at e; cases e
theorem head_nob (P : Pst) (b : Nat) : jb (P.head b) := fun c hc b' bs e => by
 simp only [Pst.head, List.mem_cons, List.not_mem_nil, or_false] at hc
 rcases hc with h | h | h <;> (rw [h] at e; cases e)
theorem pcs_perm (P : Pst) (b : Nat) (EE X : List Ck) : (EE ++ (P.pcs b ++ X)).Perm (P.head b ++ (P.rs.map Rk.row ++ (X ++ EE))) := by
 refine List.perm_append_comm.trans ?_
 rw [Pst.pcs, List.append_assoc, List.append_assoc]
theorem toP (M : Mg w0 w (EE ++ (P.pcs b ++ X))) : Mg w0 w (P.head b ++ (P.rs.map Rk.row ++ (X ++ EE))) := M.perm (pcs_perm P b EE X)
theorem sr_of (hP : PL w0 X P) (M : Mg w0 w (P.head b ++ (P.rs.map Rk.row ++ (X ++ EE)))) : SR w b P.tz P.tc P.ts P.ro P.rc P.rs := by
 have hX : Mg w0 w X := M.sub ((List.sublist_append_left X EE).trans ((List.sublist_append_right _ _).trans (List.sublist_append_right _ _)))
 have h0 : Mg w0 w ((.obj b (.cells #[.slice P.tz P.ts.length P.tc, .slice P.ro P.rs.length P.rc] 73)) :: .row 33 7 (.slice P.tz P.ts.length P.tc) P.ts.length (qg Ty.c P.ts) :: .row 86 2 (.slice P.ro P.rs.length P.rc) P.rs.length (qg Rk.c P.rs) :: (P.rs.map Rk.row ++ (X ++ EE))) := M
 refine ⟨h0.cell 0 rfl 0 rfl, h0.cell 0 rfl 1 rfl, ⟨rc_own (h0.has 1 rfl), fun t ht => hP.ty t ht w hX⟩, ⟨rc_own (h0.has 2 rfl), fun r hr => ⟨?_, fun d hd => hP.da r hr d hd w hX⟩⟩⟩
 have := M.all r.row (by
  refine List.mem_append_right _ (List.mem_append_left _ (List.mem_map.2 ⟨r, hr, rfl⟩)))
 exact (qhh this).1
theorem PL.sr (hP : PL w0 X P) (M : Mg w0 w (EE ++ (P.pcs b ++ X))) : SR w b P.tz P.tc P.ts P.ro P.rc P.rs := sr_of hP (toP M)
theorem qgi (hE : jb EE) (hP : PL w0 X P) : jb (P.rs.map Rk.row ++ (X ++ EE)) := xw (qgh P.rs) (xw hP.nb hE)
theorem inE {φ : World → Prop} (h : ∀ w1, Mg w0 w1 EE → φ w1) : ∀ w1, Mg w0 w1 (P.rs.map Rk.row ++ (X ++ EE)) → φ w1 := fun w1 h1 => h w1 (h1.sub ((List.sublist_append_right _ _).trans (List.sublist_append_right _ _)))
theorem addF {hd N A F : List Ck} (h : Mg w0 w (hd ++ (F ++ (A ++ (X ++ EE))))) : Mg w0 w (EE ++ ((hd ++ A) ++ (F ++ X))) := by
 refine h.perm ?_
 refine List.Perm.trans ?_ List.perm_append_comm
 rw [List.append_assoc, List.append_assoc]
 refine List.Perm.append_left hd ?_
 refine (List.perm_append_comm_assoc F A _).trans ?_
 rw [List.append_assoc]
end
theorem p_type {w0 w : World} {b : Nat} {P : Pst} {EE X : List Ck} (hP : PL w0 X P) (hE : jb EE) {u : Ty} (hU : ∀ w1, Mg w0 w1 EE → TyR w1 u) (hul : u.fs.length ≤ 1000000) (hum : u.ms.length ≤ 1000000) (hz1 : u.nm.size ≤ 281474976710656) (hz2 : u.ui.size ≤ 281474976710656) (huz : ∀ s ∈ u.fs, s.size ≤ 281474976710656) (M : Mg w0 w (EE ++ (P.pcs b ++ X))) : Calls Tryz.prog 8 #[.pointer (some ⟨b, 0, none⟩), .agg #[.string u.nm, .int .i64 u.par, .slice u.fo u.fs.length u.fc, .slice u.mo u.ms.length u.mc, .bool u.sl, .bool u.op, .string u.ui]] w fun e w' => ∃ (P' : Pst) (F : List Ck), e = .returned (.tuple #[.int .i64 (tyS P.ks u.k).1, .int .i64 (tyS P.ks u.k).2.1]) ∧ (PL w0 (F ++ X) P' ∧ P'.ks = (if (tyS P.ks u.k).2.2 = true then P.ks ++ [u.k] else P.ks) ∧ P'.rr = P.rr) ∧ Mg w0 w' (EE ++ (P'.pcs b ++ (F ++ X))) := by
 have S := hP.sr M
 have hW := hP.ws
 have hEM : Mg w0 w EE := M.sub (List.sublist_append_left _ _)
 cases hq : (tyS P.ks u.k).2.2 with
 | false =>
  refine (type_no S hW (hU w hEM) hul hum huz hq).mono ?_
  rintro e w' ⟨rfl, h1⟩
  exact ⟨P, [], rfl, ⟨hP, by rw [if_neg (by decide)], rfl⟩, M.call h1⟩
 | true =>
  have key : gdB P.ts.length u.k = true ∧ ¬ 0 ≤ uix P.ks u.ui ∧ slP P.ks u.par = false ∧ cnt P.ks u.par + u.fs.length ≤ 16 ∧ P.ts.length < 4096 ∧ tyS P.ks u.k = (((P.ts.length : Nat) : Int), 0, true) := by
   have hq0 := hq
   unfold tyS at hq
   split at hq
   ·
    rename_i hg
    split at hq
    ·
     split at hq <;> cases hq
    ·
     rename_i h0
     split at hq
     ·
      cases hq
     ·
      rename_i h1
      split at hq
      ·
       rename_i h2
       refine ⟨?_, h0, show slP P.ks u.k.par = false by simpa using h1, h2.1, by have := h2.2; rwa [Pst.ks, List.length_map] at this, ?_⟩
       ·
        rwa [Pst.ks, List.length_map] at hg
       ·
        rw [qea hg h0 (by simpa using h1) h2, Pst.ks, List.length_map]
      ·
       cases hq
   ·
    cases hq
  obtain ⟨k1, k2, k3, k4, k5, k6⟩ := key
  refine (type_new (qgi hE hP) hW (fun w1 h1 => sr_of hP h1) (toP M) (inE hU) hul hum hz1 hz2 huz k1 k2 k3 k4 k5).mono ?_
  rintro e w' ⟨t2, tz', tc', rfl, hk2, h1⟩
  have hks : (P.ts ++ [t2]).map Ty.k = P.ks ++ [u.k] := by rw [List.map_append, List.map_cons, List.map_nil, hk2]; rfl
  refine ⟨⟨tz', tc', P.ts ++ [t2], P.ro, P.rc, P.rs⟩, [.row 9 1 (.slice t2.fo t2.fs.length t2.fc) t2.fs.length (E.strC t2.fs), .row 4 1 (.slice t2.mo t2.ms.length t2.mc) t2.ms.length (E.boolC t2.ms)], by rw [k6], ⟨⟨?_, fun r hr d hd w9 h9 => hP.da r hr d hd w9 (h9.sub (List.sublist_append_right _ _)), ?_, xw (qi (by simp) (qi (by simp) (fun c hc => by cases hc))) hP.nb⟩, by rw [if_pos rfl]; exact hks, rfl⟩, ?_⟩
  ·
   intro t ht w9 h9
   rcases List.mem_append.1 ht with h | h
   ·
    exact hP.ty t h w9 (h9.sub (List.sublist_append_right _ _))
   ·
    rw [List.mem_singleton.1 h]
    exact ⟨Go.Proofs.YtokgmpjblnpjmaaGreatDoor.G.E.rc_own (h9.has 0 rfl), Go.Proofs.YtokgmpjblnpjmaaGreatDoor.G.E.rc_own (h9.has 1 rfl)⟩
  ·
   show WS ((P.ts ++ [t2]).map Ty.k) P.rr
   rw [hks]
   exact ws_type hW hq ⟨hz1, hz2, huz⟩
  ·
   exact addF (hd := Pst.head ⟨tz', tc', P.ts ++ [t2], P.ro, P.rc, P.rs⟩ b) (N := []) (F := [.row 9 1 (.slice t2.fo t2.fs.length t2.fc) t2.fs.length (E.strC t2.fs), .row 4 1 (.slice t2.mo t2.ms.length t2.mc) t2.ms.length (E.boolC t2.ms)]) (A := P.rs.map Rk.row) h1
theorem p_make {w0 w : World} {b : Nat} {P : Pst} {EE X : List Ck} (hP : PL w0 X P) (hE : jb EE) {vo : Option Addr} {vc : Nat} {vs : List Dt} (hV : ∀ w1, Mg w0 w1 EE → Rt w1 vo vs ∧ ∀ d ∈ vs, d.rd w1) (hvb : Tr.bulks (vs.map Dt.tr) ≤ 1000000000) (hT : ∀ w1, Mg w0 w1 EE → Tabs8 w1) (t : Int) (M : Mg w0 w (EE ++ (P.pcs b ++ X))) : Calls Tryz.prog 10 #[.pointer (some ⟨b, 0, none⟩), .int .i64 t, .slice vo vs.length vc] w fun e w' => ∃ (P' : Pst) (F : List Ck), e = .returned (.tuple #[.int .i64 (mkS P.ks P.rs.length t (vs.map Dt.tr)).1, .int .i64 (mkS P.ks P.rs.length t (vs.map Dt.tr)).2.1]) ∧ (PL w0 (F ++ X) P' ∧ P'.ks = P.ks ∧ P'.rr = (if (mkS P.ks P.rs.length t (vs.map Dt.tr)).2.2 = true then P.rr ++ [(t.toNat, vs.map Dt.tr)] else P.rr)) ∧ Mg w0 w' (EE ++ (P'.pcs b ++ (F ++ X))) := by
 have S := hP.sr M
 have hW := hP.ws
 have hEM : Mg w0 w EE := M.sub (List.sublist_append_left _ _)
 have hvl := vg vs
 cases hq : (mkS P.ks P.rs.length t (vs.map Dt.tr)).2.2 with
 | false =>
  refine (make_no S hW (hV w hEM).1 (hV w hEM).2 (by omega) (hT w hEM) hq).mono ?_
  rintro e w' ⟨rfl, h1⟩
  exact ⟨P, [], rfl, ⟨hP, rfl, by rw [if_neg (by decide)]⟩, M.call h1⟩
 | true =>
  have key : okT P.ts.length t = true ∧ vs.length = cnt P.ks t ∧ (vs.map Dt.tr).all (jp ja) = true ∧ P.rs.length < 20000 ∧ mkS P.ks P.rs.length t (vs.map Dt.tr) = (((P.rs.length : Nat) : Int), 0, true) := by
   unfold mkS at hq
   split at hq
   ·
    rename_i h1
    rw [Pst.ks, List.length_map] at h1
    split at hq
    ·
     rename_i h2
     split at hq
     ·
      rename_i h3
      split at hq
      ·
       rename_i h4; exact ⟨h1, by rw [← h2, List.length_map], h3, h4, mkS_ok h1 h2 h3 h4⟩
      ·
       cases hq
     ·
      cases hq
    ·
     cases hq
   ·
    cases hq
  obtain ⟨k1, k2, k3, k4, k5⟩ := key
  refine (make_ok (qgi hE hP) hW (fun w1 h1 => sr_of hP h1) (toP M) (inE hV) hvb (inE hT) k1 k2 k3 k4).mono ?_
  rintro e w' ⟨us, so6, ca6, ro', rc', F, rfl, ⟨htr, hL, hF⟩, h1⟩
  have hrr : (P.rs ++ [Rk.mk t.toNat so6 ca6 us]).map Rk.k = P.rr ++ [(t.toNat, vs.map Dt.tr)] := by rw [List.map_append, List.map_cons, List.map_nil, ← htr]; rfl
  refine ⟨⟨P.tz, P.tc, P.ts, ro', rc', P.rs ++ [Rk.mk t.toNat so6 ca6 us]⟩, F, by rw [k5], ⟨⟨fun y hy w9 h9 => hP.ty y hy w9 (h9.sub (List.sublist_append_right _ _)), ?_, ?_, xw hF hP.nb⟩, rfl, by rw [if_pos rfl]; exact hrr⟩, ?_⟩
  ·
   intro r hr d hd w9 h9
   rcases List.mem_append.1 hr with h | h
   ·
    exact hP.da r h d hd w9 (h9.sub (List.sublist_append_right _ _))
   ·
    rw [List.mem_singleton.1 h] at hd
    exact hL d hd _ w9 (h9.sub (List.sublist_append_left _ _))
  ·
   show WS P.ks ((P.rs ++ [Rk.mk t.toNat so6 ca6 us]).map Rk.k)
   rw [hrr]
   exact ws_make hW (by rw [Pst.rr, List.length_map]; exact hq) (bulk_each hvb)
  ·
   refine addF (hd := Pst.head ⟨P.tz, P.tc, P.ts, ro', rc', P.rs ++ [Rk.mk t.toNat so6 ca6 us]⟩ b) (N := []) (F := F) (A := (P.rs ++ [Rk.mk t.toNat so6 ca6 us]).map Rk.row) ?_
   refine Mg.perm h1 ?_
   rw [List.map_append]
   show List.Perm (Pst.head ⟨P.tz, P.tc, P.ts, ro', rc', P.rs ++ [Rk.mk t.toNat so6 ca6 us]⟩ b ++ ([(Rk.mk t.toNat so6 ca6 us).row] ++ (F ++ (P.rs.map Rk.row ++ (X ++ EE))))) _
   refine List.Perm.append_left _ ?_
   refine (List.perm_append_comm_assoc _ F _).trans (List.Perm.append_left F ?_)
   rw [List.append_assoc]
   exact List.perm_append_comm_assoc _ _ _
def kD (k n : Int) : Dt := .mk ⟨k, n, ⟨Q6.zero, none, 0, none, 0, none, 0, none, 0⟩, ⟨#[]⟩, none, 0, [], none, 0⟩ []
def kT (k n : Int) : Tr := .mk k n Q6.zero ⟨#[]⟩ [] []
theorem kD_tr (k n : Int) : (kD k n).tr = kT k n := by unfold kD kT; rw [Dt.tr_mk]; rfl
theorem kD_rd (w : World) {k n : Int} (h0 : -9223372036854775808 ≤ k) (h1 : k ≤ 9223372036854775807) (h2 : -9223372036854775808 ≤ n) (h3 : n ≤ 9223372036854775807) : (kD k n).rd w :=
  Dt.rd_iff.2 ⟨⟨⟨Sc.none w, Sc.none w, Sc.none w, Sc.none w⟩, qbi, ⟨fun h => absurd rfl h⟩, Nat.le_refl _, by show (0 : Nat) ≤ _; omega, h0, h1, h2, h3, by show (0 : Nat) ≤ _; omega⟩, Nat.le_refl _, by show (0 : Nat) ≤ _; omega, fun h => absurd rfl h, fun t h => by cases h⟩
theorem tr_n {t u : Dt} (h : t.tr = u.tr) : t.d.n = u.d.n := by
  cases t with
  | mk d ts =>
    cases u with
    | mk e us =>
      rw [Dt.tr_mk, Dt.tr_mk] at h
      injection h
end Go.Proofs.YtokgmpjblnpjmaaGreatDoor.G
