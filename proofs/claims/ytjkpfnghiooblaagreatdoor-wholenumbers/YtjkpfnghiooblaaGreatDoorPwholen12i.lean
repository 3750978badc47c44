/- The walk of the fixed fact of the laws of bytevec. Numbers out of bytes, the lowest first: their words. The walk of the number of any bytes. Numbers that are read stay so where blocks without words are made or written. The walk of the number of any bytes, with a sign or without. A number at a place of bytes: what is answered, and helpers for the walks. A row of 64 bytes that are 0, made in a region that draws its order. Walks of the number at a place of bytes. The walk of the document's number at a place of bytes. Steps that go from the one stack to the other. Bytes that are made of a number's words; steps that keep what is read as words. Walks of the bytes of a whole number. Walks of Put. What was put is got again. Walks of a whole number that is carried in four ways. A builder that is a part of a struct: its check, and the text that it holds. A number as it lies in a row of cells. Walks of a builder that is a part of a struct. Walks of the text of a datum that is a number. Write of a number. The walk of the law of whole numbers. -/
import Derived.Test.YtjkpfnghiooblaaGreatDoorPwholen12h
import Derived.Test.YtjkpfnghiooblaaGreatDoorPwholen12d
import Derived.Test.YtjkpfnghiooblaaGreatDoorWords
import Derived.Test.YtjkpfnghiooblaaGreatDoorArith
import Derived.Test.YtjkpfnghiooblaaGreatDoorPwholen12f
import Derived.Test.YtjkpfnghiooblaaGreatDoorPwholen12e
import Derived.Test.YtjkpfnghiooblaaGreatDoorShelfC
import Derived.Test.YtjkpfnghiooblaaGreatDoorPwholen12g
import Derived.WalkKit
import Derived.Laws.Externs
import Derived.Lib.Builder
import Derived.Lib.UnsafeStr
import Derived.Lib.AppendStr
import Derived.Shelf.RegionOpenPlain
namespace Go.Proofs.YtjkpfnghiooblaaGreatDoor.G
open Go.RowKit
set_option linter.unusedVariables false
set_option linter.unusedSimpArgs false
set_option maxRecDepth 100000
theorem ByW_is1_77 : Is1 Tryz.prog 77 := ⟨⟨_, Tryz.underlying77, rfl⟩, by kernel_rfl⟩
theorem ByW_isS_26 : IsS Tryz.prog 26 6 := ⟨⟨_, Tryz.underlying26⟩, by kernel_rfl⟩
/-- A word of a row of the call's own. -/
theorem yi {w0 w : World} {L : List Ck} (M : Mg w0 w L) (k : Nat) {g cap x : Nat} (hk : L[k]? = some (.row 77 1 (.slice (some ⟨g, 0, none⟩) 1 cap) 1 [.int .u32 ((x : Nat) : Int)])) (hx : x < 4294967296) : Sc w (some ⟨g, 0, none⟩) cap [x] := by
 have hr : w.ownsRow w0.heap.size 77 1 (.slice (some ⟨g, 0, none⟩) 1 cap) 1 [.int .u32 ((x : Nat) : Int)] := M.has k hk
 refine ⟨⟨fun y hy => by rw [List.mem_singleton] at hy; omega, fun _ => ⟨g, 0, rfl, ?_, fun j hj => ?_⟩⟩, (fun h => (by cases h)), ?_⟩
 ·
  rcases hr.2 with ⟨he, _⟩ | ⟨g', c', cur, he, h1, h2, _⟩
  ·
   cases he
  ·
   cases he; exact (Array.getElem?_eq_some_iff.1 h2).1
 ·
  have e : j = 0 := by simp at hj; omega
  subst e
  rw [World.ownsRow.cellAt hr 0 (by decide)]
  rfl
 ·
  rcases hr.2 with ⟨he, _⟩ | ⟨g', c', cur, he, _, _, h3, _⟩
  ·
   cases he
  ·
   cases he; exact h3
theorem qba {w0 w : World} {L : List Ck} (M : Mg w0 w L) (k : Nat) {e : TypeId} {sz g n cap : Nat} {xs : List Value} (hk : L[k]? = some (.row e sz (.slice (some ⟨g, 0, none⟩) n cap) n xs)) : ∀ j u, xs[j]? = some u → w.cell? ⟨g, j, none⟩ = some u := by
 intro j u hj
 have hr : w.ownsRow w0.heap.size e sz (.slice (some ⟨g, 0, none⟩) n cap) n xs := M.has k hk
 have hlt := (List.getElem?_eq_some_iff.1 hj).1
 rw [World.ownsRow.cellAt hr j (by rw [← hr.1]; exact hlt)]
 exact hj
theorem qvi {w0 w : World} {L : List Ck} (M : Mg w0 w L) (k : Nat) {e : TypeId} {sz g n cap : Nat} {xs : List Value} (hk : L[k]? = some (.row e sz (.slice (some ⟨g, 0, none⟩) n cap) n xs)) : g < w.heap.size := by
 have hr : w.ownsRow w0.heap.size e sz (.slice (some ⟨g, 0, none⟩) n cap) n xs := M.has k hk
 rcases hr.2 with ⟨he, _⟩ | ⟨g', c', cur, he, h1, h2, _⟩
 ·
  cases he
 ·
  cases he; exact (Array.getElem?_eq_some_iff.1 h2).1
theorem zmh {w : World} {so : Option Addr} {bq oq : Nat} (hq1 : so = some ⟨bq, oq, none⟩) (hq2 : bq < w.heap.size) (hq3 : w.cell? ⟨bq, oq + 0, none⟩ = some (.int .u32 0)) (hq4 : w.cell? ⟨bq, oq + 1, none⟩ = some (.int .u32 0)) : Calls Tryz.prog 123 #[.slice so 2 2] w fun e w' => e = .returned (.slice so 0 2) ∧ Below w.heap.size w w' := by
 have M : Mg w w ([]) := Mg.start w
 refine qy (l := [(0, .slice so 2 2)]) Tryz.func123 rfl Tryz.ntmps123 rfl rfl ?_
 intro Q hret hnorm hP a H
 refine wsk fun K1 hK1 => wrl (sda H λa H↦?_)
 refine qa (hK1 _ _ (wsk fun K2 hK2 => wp_block (wp_loop_rounds 3 ?_)))
 refine xb ?_
 intro K3 hK3
 refine wsk fun K4 hK4 => wsk fun K5 hK5 => wrl (sdm H λa H↦?_)
 refine sdo H (zg Tryz.underlying22 rfl) λa H↦?_
 refine sdo (v := .bool true) H (qe rfl rfl (fun w => by kernel_rfl)) λa H↦?_
 iterate 3 refine sdm H λa H↦?_
 refine sdo H (zg Tryz.underlying22 rfl) λa H↦?_
 refine sdo (v := .int .i64 1) H (qe rfl rfl (fun w => by kernel_rfl)) λa H↦?_
 refine sdo (v := .pointer (some ⟨bq, oq + 1, none⟩)) H (zw (k := 1) Tryz.underlying22 (by kernel_rfl) rfl rfl rfl hq1 (by decide)) λa H↦?_
 refine sdo (v := .int .u32 0) H (qfa M hq2 hq4 ByW_is1_77 rfl) λa H↦?_
 refine sdo (v := .bool true) H (qe rfl rfl (fun w => by kernel_rfl)) λa H↦?_
 refine sdk (v := .bool true) H λa H↦?_
 refine qa (hK5 _ _ (wp_cond_true (H.ev rfl) ?_))
 refine wp_skip (hK4 _ _ (wp_block (wrl ?_)))
 iterate 2 refine sdm H λa H↦?_
 refine sdo H (zg Tryz.underlying22 rfl) λa H↦?_
 refine sdo (v := .int .i64 1) H (qe rfl rfl (fun w => by kernel_rfl)) λa H↦?_
 refine sdo (v := .slice so 1 2) H (qfb (sz := 1) (hi := 1) Tryz.underlying22 (by kernel_rfl) rfl rfl rfl (by decide)) λa H↦?_
 refine sda H λa H↦?_
 refine qa (hK3 _ _ (xb ?_))
 intro K6 hK6
 refine wsk fun K7 hK7 => wsk fun K8 hK8 => wrl (sdm H λa H↦?_)
 refine sdo H (zg Tryz.underlying22 rfl) λa H↦?_
 refine sdo (v := .bool true) H (qe rfl rfl (fun w => by kernel_rfl)) λa H↦?_
 iterate 3 refine sdm H λa H↦?_
 refine sdo H (zg Tryz.underlying22 rfl) λa H↦?_
 refine sdo (v := .int .i64 0) H (qe rfl rfl (fun w => by kernel_rfl)) λa H↦?_
 refine sdo (v := .pointer (some ⟨bq, oq + 0, none⟩)) H (zw (k := 0) Tryz.underlying22 (by kernel_rfl) rfl rfl rfl hq1 (by decide)) λa H↦?_
 refine sdo (v := .int .u32 0) H (qfa M hq2 hq3 ByW_is1_77 rfl) λa H↦?_
 refine sdo (v := .bool true) H (qe rfl rfl (fun w => by kernel_rfl)) λa H↦?_
 refine sdk (v := .bool true) H λa H↦?_
 refine qa (hK8 _ _ (wp_cond_true (H.ev rfl) ?_))
 refine wp_skip (hK7 _ _ (wp_block (wrl ?_)))
 iterate 2 refine sdm H λa H↦?_
 refine sdo H (zg Tryz.underlying22 rfl) λa H↦?_
 refine sdo (v := .int .i64 0) H (qe rfl rfl (fun w => by kernel_rfl)) λa H↦?_
 refine sdo (v := .slice so 0 2) H (qfb (sz := 1) (hi := 0) Tryz.underlying22 (by kernel_rfl) rfl rfl rfl (by decide)) λa H↦?_
 refine sda H λa H↦?_
 refine qa (hK6 _ _ (xb ?_))
 intro K9 hK9
 refine wsk fun K10 hK10 => wsk fun K11 hK11 => wrl (sdm H λa H↦?_)
 refine sdo H (zg Tryz.underlying22 rfl) λa H↦?_
 refine sdo (v := .bool false) H (qe rfl rfl (fun w => by kernel_rfl)) λa H↦?_
 refine sdm H λa H↦?_
 iterate 7 refine ze H rfl rfl rfl λa H↦?_
 refine sdk (v := .bool false) H λa H↦?_
 refine qa (hK11 _ _ (wp_cond_false (H.ev rfl) ?_))
 refine wp_exit (hK2 _ _ (wsk fun K12 hK12 => wrl (sdm H λa H↦?_)))
 refine sda H λa H↦?_
 refine qa (hK12 _ _ (wp_ret (hret _ _ (en1 H rfl (qj rfl) ?_))))
 exact ⟨rfl, M.bel⟩
theorem ztg {w : World} : Calls Tryz.prog 119 #[.int .u64 0] w fun e w' => ∃ g, e = .returned (.slice (some ⟨g, 0, none⟩) 0 2) ∧ Mg w w' [.row 77 1 (.slice (some ⟨g, 0, none⟩) 0 2) 0 []] := by
 have M : Mg w w ([]) := Mg.start w
 refine qy (l := [(0, .int .u64 0)]) Tryz.func119 rfl Tryz.ntmps119 rfl rfl ?_
 intro Q hret hnorm hP a H
 refine wsk fun K1 hK1 => wrl (sda H λa H↦?_)
 refine qa (hK1 _ _ (wsk fun K2 hK2 => wrl (sdm H λa H↦?_)))
 refine sdo (v := .int .u32 0) H (xe rfl (fun w => by kernel_rfl)) λa H↦?_
 refine sdm H λa H↦?_
 refine sdo (v := .int .u64 0) H (qe rfl rfl (fun w => by kernel_rfl)) λa H↦?_
 refine sdo (v := .int .u32 0) H (xe rfl (fun w => by kernel_rfl)) λa H↦?_
 refine ztb (e := 77) (sz := 1) (m := 2) (vs := [.int .u32 0, .int .u32 0]) H M rfl rfl rfl (zx rfl (by kernel_rfl)) rfl rfl (.inl (by decide)) ?_
 intro g3 w4 M a H
 have hr9 : _ := M.has 0 rfl
 have hc9 : ∀ j u, ([.int .u32 0, .int .u32 0] : List Value)[j]? = some u → World.cell? _ ⟨g3, j, none⟩ = some u := qba M 0 rfl
 refine qg H rfl rfl rfl (qb rfl rfl (fun w => by kernel_rfl)) (zmh (so := some ⟨g3, 0, none⟩) rfl (qvi M 0 rfl) (hc9 0 _ rfl) (hc9 1 _ rfl)) ?_
 rintro _ w6 ⟨rfl, hb5⟩
 replace M := M.call hb5
 refine ⟨_, rfl, ?_⟩
 intro a H
 refine sda H λa H↦?_
 refine qa (hK2 _ _ (wp_ret (hret _ _ (en1 H rfl (qj rfl) ?_))))
 have h9 := M.rowCut 0 rfl (m := 0) (by decide)
 exact ⟨g3, rfl, h9⟩
theorem zth {w : World} : Calls Tryz.prog 76 #[.int .u64 0] w fun e w' => ∃ g, e = .returned (.slice (some ⟨g, 0, none⟩) 0 2) ∧ Mg w w' [.row 77 1 (.slice (some ⟨g, 0, none⟩) 0 2) 0 []] := by
 have M : Mg w w ([]) := Mg.start w
 refine qy (l := [(0, .int .u64 0)]) Tryz.func76 rfl Tryz.ntmps76 rfl rfl ?_
 intro Q hret hnorm hP a H
 refine wsk fun K1 hK1 => wrl (sda H λa H↦?_)
 refine qa (hK1 _ _ (wsk fun K2 hK2 => wrl (sdm H λa H↦?_)))
 refine qg H rfl rfl rfl (qb rfl rfl (fun w => by kernel_rfl)) (ztg) ?_
 rintro _ w5 ⟨g3, rfl, hM4⟩
 replace M : Mg w w5 (.row 77 1 (.slice (some ⟨g3, 0, none⟩) 0 2) 0 ([]) :: []) := (M.both hM4 (zb zd) (qp (by simp) (zb zd)))
 refine ⟨_, rfl, ?_⟩
 intro a H
 refine sda H λa H↦?_
 refine qa (hK2 _ _ (wp_ret (hret _ _ (en1 H rfl (qj rfl) ?_))))
 exact ⟨_, rfl, M⟩
theorem zmi {w : World} {so : Option Addr} {bq oq : Nat} (hq1 : so = some ⟨bq, oq, none⟩) (hq2 : bq < w.heap.size) (hq3 : w.cell? ⟨bq, oq + 0, none⟩ = some (.int .u32 1)) (hq4 : w.cell? ⟨bq, oq + 1, none⟩ = some (.int .u32 0)) : Calls Tryz.prog 123 #[.slice so 2 2] w fun e w' => e = .returned (.slice so 1 2) ∧ Below w.heap.size w w' := by
 have M : Mg w w ([]) := Mg.start w
 refine qy (l := [(0, .slice so 2 2)]) Tryz.func123 rfl Tryz.ntmps123 rfl rfl ?_
 intro Q hret hnorm hP a H
 refine wsk fun K1 hK1 => wrl (sda H λa H↦?_)
 refine qa (hK1 _ _ (wsk fun K2 hK2 => wp_block (wp_loop_rounds 3 ?_)))
 refine xb ?_
 intro K3 hK3
 refine wsk fun K4 hK4 => wsk fun K5 hK5 => wrl (sdm H λa H↦?_)
 refine sdo H (zg Tryz.underlying22 rfl) λa H↦?_
 refine sdo (v := .bool true) H (qe rfl rfl (fun w => by kernel_rfl)) λa H↦?_
 iterate 3 refine sdm H λa H↦?_
 refine sdo H (zg Tryz.underlying22 rfl) λa H↦?_
 refine sdo (v := .int .i64 1) H (qe rfl rfl (fun w => by kernel_rfl)) λa H↦?_
 refine sdo (v := .pointer (some ⟨bq, oq + 1, none⟩)) H (zw (k := 1) Tryz.underlying22 (by kernel_rfl) rfl rfl rfl hq1 (by decide)) λa H↦?_
 refine sdo (v := .int .u32 0) H (qfa M hq2 hq4 ByW_is1_77 rfl) λa H↦?_
 refine sdo (v := .bool true) H (qe rfl rfl (fun w => by kernel_rfl)) λa H↦?_
 refine sdk (v := .bool true) H λa H↦?_
 refine qa (hK5 _ _ (wp_cond_true (H.ev rfl) ?_))
 refine wp_skip (hK4 _ _ (wp_block (wrl ?_)))
 iterate 2 refine sdm H λa H↦?_
 refine sdo H (zg Tryz.underlying22 rfl) λa H↦?_
 refine sdo (v := .int .i64 1) H (qe rfl rfl (fun w => by kernel_rfl)) λa H↦?_
 refine sdo (v := .slice so 1 2) H (qfb (sz := 1) (hi := 1) Tryz.underlying22 (by kernel_rfl) rfl rfl rfl (by decide)) λa H↦?_
 refine sda H λa H↦?_
 refine qa (hK3 _ _ (xb ?_))
 intro K6 hK6
 refine wsk fun K7 hK7 => wsk fun K8 hK8 => wrl (sdm H λa H↦?_)
 refine sdo H (zg Tryz.underlying22 rfl) λa H↦?_
 refine sdo (v := .bool true) H (qe rfl rfl (fun w => by kernel_rfl)) λa H↦?_
 iterate 3 refine sdm H λa H↦?_
 refine sdo H (zg Tryz.underlying22 rfl) λa H↦?_
 refine sdo (v := .int .i64 0) H (qe rfl rfl (fun w => by kernel_rfl)) λa H↦?_
 refine sdo (v := .pointer (some ⟨bq, oq + 0, none⟩)) H (zw (k := 0) Tryz.underlying22 (by kernel_rfl) rfl rfl rfl hq1 (by decide)) λa H↦?_
 refine sdo (v := .int .u32 1) H (qfa M hq2 hq3 ByW_is1_77 rfl) λa H↦?_
 refine sdo (v := .bool false) H (qe rfl rfl (fun w => by kernel_rfl)) λa H↦?_
 refine sdk (v := .bool false) H λa H↦?_
 refine qa (hK8 _ _ (wp_cond_false (H.ev rfl) ?_))
 refine wp_exit (hK2 _ _ (wsk fun K9 hK9 => wrl (sdm H λa H↦?_)))
 refine sda H λa H↦?_
 refine qa (hK9 _ _ (wp_ret (hret _ _ (en1 H rfl (qj rfl) ?_))))
 exact ⟨rfl, M.bel⟩
theorem zti {w : World} : Calls Tryz.prog 119 #[.int .u64 1] w fun e w' => ∃ g, e = .returned (.slice (some ⟨g, 0, none⟩) 1 2) ∧ Mg w w' [.row 77 1 (.slice (some ⟨g, 0, none⟩) 1 2) 1 [.int .u32 1]] := by
 have M : Mg w w ([]) := Mg.start w
 refine qy (l := [(0, .int .u64 1)]) Tryz.func119 rfl Tryz.ntmps119 rfl rfl ?_
 intro Q hret hnorm hP a H
 refine wsk fun K1 hK1 => wrl (sda H λa H↦?_)
 refine qa (hK1 _ _ (wsk fun K2 hK2 => wrl (sdm H λa H↦?_)))
 refine sdo (v := .int .u32 1) H (xe rfl (fun w => by kernel_rfl)) λa H↦?_
 refine sdm H λa H↦?_
 refine sdo (v := .int .u64 0) H (qe rfl rfl (fun w => by kernel_rfl)) λa H↦?_
 refine sdo (v := .int .u32 0) H (xe rfl (fun w => by kernel_rfl)) λa H↦?_
 refine ztb (e := 77) (sz := 1) (m := 2) (vs := [.int .u32 1, .int .u32 0]) H M rfl rfl rfl (zx rfl (by kernel_rfl)) rfl rfl (.inl (by decide)) ?_
 intro g3 w4 M a H
 have hr9 : _ := M.has 0 rfl
 have hc9 : ∀ j u, ([.int .u32 1, .int .u32 0] : List Value)[j]? = some u → World.cell? _ ⟨g3, j, none⟩ = some u := qba M 0 rfl
 refine qg H rfl rfl rfl (qb rfl rfl (fun w => by kernel_rfl)) (zmi (so := some ⟨g3, 0, none⟩) rfl (qvi M 0 rfl) (hc9 0 _ rfl) (hc9 1 _ rfl)) ?_
 rintro _ w6 ⟨rfl, hb5⟩
 replace M := M.call hb5
 refine ⟨_, rfl, ?_⟩
 intro a H
 refine sda H λa H↦?_
 refine qa (hK2 _ _ (wp_ret (hret _ _ (en1 H rfl (qj rfl) ?_))))
 have h9 := M.rowCut 0 rfl (m := 1) (by decide)
 exact ⟨g3, rfl, h9⟩
theorem qzi {w : World} : Calls Tryz.prog 76 #[.int .u64 1] w fun e w' => ∃ g, e = .returned (.slice (some ⟨g, 0, none⟩) 1 2) ∧ Mg w w' [.row 77 1 (.slice (some ⟨g, 0, none⟩) 1 2) 1 [.int .u32 1]] := by
 have M : Mg w w ([]) := Mg.start w
 refine qy (l := [(0, .int .u64 1)]) Tryz.func76 rfl Tryz.ntmps76 rfl rfl ?_
 intro Q hret hnorm hP a H
 refine wsk fun K1 hK1 => wrl (sda H λa H↦?_)
 refine qa (hK1 _ _ (wsk fun K2 hK2 => wrl (sdm H λa H↦?_)))
 refine qg H rfl rfl rfl (qb rfl rfl (fun w => by kernel_rfl)) (zti) ?_
 rintro _ w5 ⟨g3, rfl, hM4⟩
 replace M : Mg w w5 (.row 77 1 (.slice (some ⟨g3, 0, none⟩) 1 2) 1 ([.int .u32 1]) :: []) := (M.both hM4 (zb zd) (qp (by simp) (zb zd)))
 refine ⟨_, rfl, ?_⟩
 intro a H
 refine sda H λa H↦?_
 refine qa (hK2 _ _ (wp_ret (hret _ _ (en1 H rfl (qj rfl) ?_))))
 exact ⟨_, rfl, M⟩
theorem ztj {w : World} : Calls Tryz.prog 117 #[.int .i64 0] w fun e w' => ∃ g1 g2 g3, e = .returned (.agg #[.bool false, .slice (some ⟨g1, 0, none⟩) 0 2, .slice (some ⟨g2, 0, none⟩) 1 2, .bool false, .slice none 0 0, .slice (some ⟨g3, 0, none⟩) 1 2]) ∧ Mg w w' [.row 77 1 (.slice (some ⟨g1, 0, none⟩) 0 2) 0 [], .row 77 1 (.slice (some ⟨g2, 0, none⟩) 1 2) 1 [.int .u32 1], .row 77 1 (.slice (some ⟨g3, 0, none⟩) 1 2) 1 [.int .u32 1]] := by
 have M : Mg w w ([]) := Mg.start w
 refine qy (l := [(0, .int .i64 0)]) Tryz.func117 rfl Tryz.ntmps117 rfl rfl ?_
 intro Q hret hnorm hP a H
 refine wsk fun K1 hK1 => wrl (xm (vs := [.bool false, .slice none 0 0, .slice none 0 0, .bool false, .slice none 0 0, .slice none 0 0]) (t := 26) H M rfl rfl rfl pg (ql (z := .agg #[.bool false, .slice none 0 0, .slice none 0 0, .bool false, .slice none 0 0, .slice none 0 0]) (by kernel_rfl) rfl) (by decide) ?_)
 intro g2 w3 M a H
 refine qa (hK1 _ _ (wsk fun K4 hK4 => wrl (sdm H λa H↦?_)))
 refine sdo (v := .int .u64 0) H (xe rfl (fun w => by kernel_rfl)) λa H↦?_
 refine sda H λa H↦?_
 refine qa (hK4 _ _ (wsk fun K5 hK5 => wsk fun K6 hK6 => wrl (sdm H λa H↦?_)))
 refine sdo (v := .bool false) H (qe rfl rfl (fun w => by kernel_rfl)) λa H↦?_
 refine qa (hK6 _ _ (wp_cond_false (H.ev rfl) ?_))
 refine wp_skip (hK5 _ _ (wsk fun K7 hK7 => wrl (sdm H λa H↦?_)))
 refine sdo (v := .bool false) H (qe rfl rfl (fun w => by kernel_rfl)) λa H↦?_
 refine sdm H λa H↦?_
 refine qg H rfl rfl rfl (qb rfl rfl (fun w => by kernel_rfl)) (zth) ?_
 rintro _ w10 ⟨g8, rfl, hM9⟩
 replace M : Mg w w10 (.row 77 1 (.slice (some ⟨g8, 0, none⟩) 0 2) 0 ([]) :: .obj g2 (.cells #[.bool false, .slice none 0 0, .slice none 0 0, .bool false, .slice none 0 0, .slice none 0 0] 26) :: []) := (M.both hM9 (qp (by simp) (zb zd)) (qp (by simp) (zb zd)))
 refine ⟨_, rfl, ?_⟩
 intro a H
 refine qg H rfl rfl rfl (qb rfl rfl (fun w => by kernel_rfl)) (qzi) ?_
 rintro _ w13 ⟨g11, rfl, hM12⟩
 replace M : Mg w w13 (.row 77 1 (.slice (some ⟨g11, 0, none⟩) 1 2) 1 ([.int .u32 1]) :: .row 77 1 (.slice (some ⟨g8, 0, none⟩) 0 2) 0 ([]) :: .obj g2 (.cells #[.bool false, .slice none 0 0, .slice none 0 0, .bool false, .slice none 0 0, .slice none 0 0] 26) :: []) := (M.both hM12 (qp (by simp) (qp (by simp) (zb zd))) (qp (by simp) (zb zd)))
 refine ⟨_, rfl, ?_⟩
 intro a H
 refine sdo (v := .agg #[.bool false, .slice (some ⟨g8, 0, none⟩) 0 2, .slice (some ⟨g11, 0, none⟩) 1 2]) H (za rfl (fun w => by kernel_rfl)) λa H↦?_
 refine qg H rfl rfl rfl (qb rfl rfl (fun w => by kernel_rfl)) (qzi) ?_
 rintro _ w16 ⟨g14, rfl, hM15⟩
 replace M : Mg w w16 (.row 77 1 (.slice (some ⟨g14, 0, none⟩) 1 2) 1 ([.int .u32 1]) :: .row 77 1 (.slice (some ⟨g11, 0, none⟩) 1 2) 1 ([.int .u32 1]) :: .row 77 1 (.slice (some ⟨g8, 0, none⟩) 0 2) 0 ([]) :: .obj g2 (.cells #[.bool false, .slice none 0 0, .slice none 0 0, .bool false, .slice none 0 0, .slice none 0 0] 26) :: []) := (M.both hM15 (qp (by simp) (qp (by simp) (qp (by simp) (zb zd)))) (qp (by simp) (zb zd)))
 refine ⟨_, rfl, ?_⟩
 intro a H
 refine sdo (v := .agg #[.bool false, .slice none 0 0, .slice (some ⟨g14, 0, none⟩) 1 2]) H (za rfl (fun w => by kernel_rfl)) λa H↦?_
 refine sdo (v := .agg #[.bool false, .slice (some ⟨g8, 0, none⟩) 0 2, .slice (some ⟨g11, 0, none⟩) 1 2, .bool false, .slice none 0 0, .slice (some ⟨g14, 0, none⟩) 1 2]) H (za rfl (fun w => by kernel_rfl)) λa H↦?_
 refine vk (us := [.bool false, .slice (some ⟨g8, 0, none⟩) 0 2, .slice (some ⟨g11, 0, none⟩) 1 2, .bool false, .slice none 0 0, .slice (some ⟨g14, 0, none⟩) 1 2]) (L' := (.row 77 1 (.slice (some ⟨g14, 0, none⟩) 1 2) 1 ([.int .u32 1]) :: .row 77 1 (.slice (some ⟨g11, 0, none⟩) 1 2) 1 ([.int .u32 1]) :: .row 77 1 (.slice (some ⟨g8, 0, none⟩) 0 2) 0 ([]) :: .obj g2 (.cells #[.bool false, .slice (some ⟨g8, 0, none⟩) 0 2, .slice (some ⟨g11, 0, none⟩) 1 2, .bool false, .slice none 0 0, .slice (some ⟨g14, 0, none⟩) 1 2] 26) :: [])) H M rfl rfl (xa rfl rfl rfl (by kernel_rfl) M 3 rfl rfl rfl) 3 rfl rfl rfl ?_
 intro w17 M
 refine qa (hK7 _ _ (wp_ret (hret _ _ (en1 H rfl (ki M ByW_isS_26 rfl 3 rfl (cs := [.bool false, .slice (some ⟨g8, 0, none⟩) 0 2, .slice (some ⟨g11, 0, none⟩) 1 2, .bool false, .slice none 0 0, .slice (some ⟨g14, 0, none⟩) 1 2]) rfl rfl) ?_))))
 replace M : Mg w w17 (.row 77 1 (.slice (some ⟨g14, 0, none⟩) 1 2) 1 ([.int .u32 1]) :: .row 77 1 (.slice (some ⟨g11, 0, none⟩) 1 2) 1 ([.int .u32 1]) :: .row 77 1 (.slice (some ⟨g8, 0, none⟩) 0 2) 0 ([]) :: []) := by
  have h9 := M.sub (.cons_cons _ (.cons_cons _ (.cons_cons _ (.cons _ (.refl _)))))
  exact h9
 replace M : Mg w w17 (.row 77 1 (.slice (some ⟨g11, 0, none⟩) 1 2) 1 ([.int .u32 1]) :: .row 77 1 (.slice (some ⟨g14, 0, none⟩) 1 2) 1 ([.int .u32 1]) :: .row 77 1 (.slice (some ⟨g8, 0, none⟩) 0 2) 0 ([]) :: []) := M.perm (List.perm_middle (l₁ := [_]))
 replace M : Mg w w17 (.row 77 1 (.slice (some ⟨g8, 0, none⟩) 0 2) 0 ([]) :: .row 77 1 (.slice (some ⟨g11, 0, none⟩) 1 2) 1 ([.int .u32 1]) :: .row 77 1 (.slice (some ⟨g14, 0, none⟩) 1 2) 1 ([.int .u32 1]) :: []) := M.perm (List.perm_middle (l₁ := [_, _]))
 exact ⟨g8, g11, g14, rfl, M⟩
theorem qje {w : World} : Sc w none 0 [] := ⟨⟨fun x hx => (by cases hx), fun h => absurd rfl h⟩, fun _ => rfl, Nat.le_refl _⟩
/-- The number of bytes, the lowest first. -/
def leN : List UInt8 → Nat
  | [] => 0
  | b :: t => b.toNat + 256 * leN t
/-- Four bytes a word. -/
def pkW : List UInt8 → List Nat
  | [] => []
  | [a] => [a.toNat]
  | [a, b] => [a.toNat + 256 * b.toNat]
  | [a, b, c] => [a.toNat + 256 * b.toNat + 65536 * c.toNat]
  | a :: b :: c :: d :: t => (a.toNat + 256 * b.toNat + 65536 * c.toNat + 16777216 * d.toNat) :: pkW t
theorem qgg (s t : List UInt8) : leN (s ++ t) = leN s + 256 ^ s.length * leN t := by
  induction s with
  | nil => simp [leN]
  | cons b s ih =>
    rw [List.cons_append, leN, ih, leN, List.length_cons, Nat.pow_succ, Nat.mul_add, Nat.mul_comm (256 ^ s.length) 256, Nat.mul_assoc, Nat.add_assoc]
theorem qse : ∀ n : Nat, leN (List.replicate n 0) = 0
  | 0 => rfl
  | n + 1 => by rw [List.replicate_succ, leN, qse n]; rfl
theorem qdi (l : List UInt8) : ∃ n, l = xu l ++ List.replicate n 0 := by
  have h : ∀ r : List UInt8, ∃ n, r = List.replicate n 0 ++ r.dropWhile (· == 0) := by
    intro r
    induction r with
    | nil => exact ⟨0, rfl⟩
    | cons b r ih =>
      by_cases hb : b = 0
      · subst hb
        obtain ⟨n, hn⟩ := ih
        refine ⟨n + 1, ?_⟩
        rw [List.dropWhile_cons_of_pos (by simp), List.replicate_succ, List.cons_append, ← hn]
      · exact ⟨0, by rw [List.dropWhile_cons_of_neg (by simpa using hb)]; rfl⟩
  obtain ⟨n, hn⟩ := h l.reverse
  refine ⟨n, ?_⟩
  have := congrArg List.reverse hn
  rw [List.reverse_reverse, List.reverse_append, List.reverse_replicate] at this
  exact this
theorem zua (l : List UInt8) : leN (xu l) = leN l := by
  obtain ⟨n, hn⟩ := qdi l
  rw [show leN l = leN (xu l ++ List.replicate n 0) from congrArg leN hn, qgg, qse, Nat.mul_zero, Nat.add_zero]
theorem zff {l : List UInt8} (h : xu l ≠ []) : (xu l).getLast h ≠ 0 := by
  unfold xu at h ⊢
  rw [List.getLast_reverse]
  have h2 : l.reverse.dropWhile (· == 0) ≠ [] := fun k => h (by rw [k]; rfl)
  have := List.head_dropWhile_not (p := (· == 0)) (l := l.reverse) h2
  simpa using this
theorem yv (b : UInt8) : b.toNat < 256 := UInt8.toNat_lt b
/-- Bytes whose last is not 0 are the words of their number. -/
theorem qjf : ∀ (l : List UInt8), (∀ h : l ≠ [], l.getLast h ≠ 0) → pkW l = words (leN l)
  | [], _ => by rw [leN, words_zero]; rfl
  | [a], h => by
    have h1 := yv a
    have h2 : a.toNat ≠ 0 := fun k => h (by simp) (UInt8.toNat_inj.1 k)
    rw [show leN [a] = a.toNat from by simp [leN], words_pos h2, Nat.mod_eq_of_lt (by omega), Nat.div_eq_of_lt (by omega), words_zero]
    rfl
  | [a, b], h => by
    have h1 := yv a
    have h3 := yv b
    have h2 : b.toNat ≠ 0 := fun k => h (by simp) (UInt8.toNat_inj.1 k)
    rw [show leN [a, b] = a.toNat + 256 * b.toNat from by simp [leN], words_pos (by omega), Nat.mod_eq_of_lt (by omega), Nat.div_eq_of_lt (by omega), words_zero]
    rfl
  | [a, b, c], h => by
    have h1 := yv a
    have h3 := yv b
    have h4 := yv c
    have h2 : c.toNat ≠ 0 := fun k => h (by simp) (UInt8.toNat_inj.1 k)
    rw [show leN [a, b, c] = a.toNat + 256 * b.toNat + 65536 * c.toNat from by simp [leN]; omega, words_pos (by omega), Nat.mod_eq_of_lt (by omega), Nat.div_eq_of_lt (by omega), words_zero]
    rfl
  | a :: b :: c :: d :: t, h => by
    have h1 := yv a
    have h3 := yv b
    have h4 := yv c
    have h5 := yv d
    have e : leN (a :: b :: c :: d :: t) = (a.toNat + 256 * b.toNat + 65536 * c.toNat + 16777216 * d.toNat) + 4294967296 * leN t := by simp only [leN]; omega
    have hne : leN (a :: b :: c :: d :: t) ≠ 0 := by
      rw [e]
      cases t with
      | nil =>
        have h2 : d.toNat ≠ 0 := fun k => h (by simp) (UInt8.toNat_inj.1 k)
        omega
      | cons x t =>
        have ih := qjf (x :: t) (fun hx => by have := h (by simp); simpa using this)
        intro k9
        have h0 : leN (x :: t) = 0 := by omega
        rw [h0, words_zero] at ih
        have : ∀ s : List UInt8, s ≠ [] → pkW s ≠ [] := by
          intro s hs
          match s, hs with
          | [_], _ => simp [pkW]
          | [_, _], _ => simp [pkW]
          | [_, _, _], _ => simp [pkW]
          | _ :: _ :: _ :: _ :: _, _ => simp [pkW]
        exact this _ (by simp) ih
    have ih := qjf t (fun hx => by
      have := h (by simp)
      rw [List.getLast_cons (by simp), List.getLast_cons (by simp), List.getLast_cons (by simp), List.getLast_cons hx] at this
      exact this)
    rw [words_pos hne, e, Nat.add_mul_mod_self_left, Nat.mod_eq_of_lt (by omega), Nat.add_mul_div_left _ _ (by omega), Nat.div_eq_of_lt (by omega), Nat.zero_add, ← ih]
    rfl
/-- The k-th word of the first i bytes. -/
def wdK (t : List UInt8) (i k : Nat) : Nat := leN (((t.take i).drop (4 * k)).take 4)
theorem qsf : ∀ t : List UInt8, pkW t = (List.range ((t.length + 3) / 4)).map fun k => leN ((t.drop (4 * k)).take 4)
  | [] => rfl
  | [a] => by simp [pkW, leN, List.range_succ]
  | [a, b] => by simp [pkW, leN, List.range_succ]
  | [a, b, c] => by
    have e : ([a, b, c].length + 3) / 4 = 1 := by simp
    rw [e]
    simp only [pkW, List.range_one, List.map_cons, List.map_nil, List.cons.injEq, and_true, Nat.mul_zero, List.drop_zero]
    simp only [List.take_succ_cons, List.take_nil, leN]
    omega
  | a :: b :: c :: d :: t => by
    have e : ((a :: b :: c :: d :: t).length + 3) / 4 = (t.length + 3) / 4 + 1 := by simp only [List.length_cons]; omega
    rw [e, List.range_succ_eq_map, List.map_cons, List.map_map, pkW, qsf t]
    congr 1
    · simp only [Nat.mul_zero, List.drop_zero, List.take_succ_cons, List.take_zero, leN]
      omega
theorem zzf {t : List UInt8} {k : Nat} : wdK t t.length k = leN ((t.drop (4 * k)).take 4) := by
  unfold wdK; rw [List.take_of_length_le (Nat.le_refl _)]
theorem qjg : ∀ l : List UInt8, leN l < 256 ^ l.length
  | [] => by simp [leN]
  | b :: t => by
    have h1 := qjg t
    have h2 := yv b
    rw [leN, List.length_cons, Nat.pow_succ]
    omega
theorem zmj {t : List UInt8} {i k : Nat} (hi : i < t.length) (hk : k ≠ i / 4) : wdK t (i + 1) k = wdK t i k := by
  unfold wdK
  rw [show t.take (i + 1) = t.take i ++ [t[i]] from by rw [List.take_add_one, List.getElem?_eq_getElem hi]; rfl]
  by_cases h : i < 4 * k
  · rw [List.drop_eq_nil_of_le (by rw [List.length_append, List.length_take]; simp only [List.length_cons, List.length_nil]; omega), List.drop_eq_nil_of_le (by rw [List.length_take]; omega)]
  · rw [List.drop_append_of_le_length (by rw [List.length_take]; omega), List.take_append_of_le_length (by rw [List.length_drop, List.length_take]; omega)]
theorem zub {t : List UInt8} {i : Nat} (hi : i < t.length) : wdK t (i + 1) (i / 4) = wdK t i (i / 4) + 256 ^ (i % 4) * t[i].toNat ∧ wdK t i (i / 4) < 256 ^ (i % 4) := by
  have e1 : ((t.take i).drop (4 * (i / 4))).length = i % 4 := by rw [List.length_drop, List.length_take]; omega
  have e2 : ((t.take i).drop (4 * (i / 4))).take 4 = (t.take i).drop (4 * (i / 4)) := List.take_of_length_le (by omega)
  unfold wdK
  rw [show t.take (i + 1) = t.take i ++ [t[i]] from by rw [List.take_add_one, List.getElem?_eq_getElem hi]; rfl]
  rw [List.drop_append_of_le_length (by rw [List.length_take]; omega), List.take_of_length_le (by rw [List.length_append, e1]; simp only [List.length_cons, List.length_nil]; omega), e2, qgg, e1]
  refine ⟨by simp [leN], ?_⟩
  have := qjg ((t.take i).drop (4 * (i / 4)))
  rw [e1] at this
  exact this
theorem or_add {a x s : Nat} (h : a < 2 ^ s) : a ||| (x <<< s) = a + 2 ^ s * x := by
  rw [Nat.or_comm, ← Nat.shiftLeft_add_eq_or_of_lt h, Nat.shiftLeft_eq, Nat.add_comm, Nat.mul_comm]
theorem ByN_is1_5 : Is1 Tryz.prog 5 := ⟨⟨_, Tryz.underlying5, rfl⟩, by kernel_rfl⟩
theorem ByN_is1_77 : Is1 Tryz.prog 77 := ⟨⟨_, Tryz.underlying77, rfl⟩, by kernel_rfl⟩
theorem ByN_fld_24_1 : FieldAt Tryz.prog 24 1 1 := ⟨_, _, Tryz.underlying24, rfl, rfl, by kernel_rfl⟩
theorem ByN_fld_26_0 : FieldAt Tryz.prog 26 0 0 := ⟨_, _, Tryz.underlying26, rfl, rfl, by kernel_rfl⟩
theorem ByN_isS_26 : IsS Tryz.prog 26 6 := ⟨⟨_, Tryz.underlying26⟩, by kernel_rfl⟩
def uC (ws : List Nat) : List Value := ws.map fun x => .int .u32 ((x : Nat) : Int)
def wsI (t : List UInt8) (m i : Nat) : List Nat := (List.range m).map (wdK t i)
theorem zfg (n : Nat) : (madeCells (Value.int .u32 0).cells (n * 1)).toList = uC (wsI [] n 0) := by
 unfold madeCells uC wsI
 rw [Array.toList_map, Array.toList_range, Nat.mul_one, List.map_map]
 refine List.map_congr_left fun k _ => ?_
 show (Value.int .u32 0).cells[k % 1]! = _
 rw [Nat.mod_one]
 simp [wdK, leN]
 rfl
theorem zuc (t : List UInt8) (m : Nat) : wsI [] m 0 = wsI t m 0 := by
 unfold wsI
 refine List.map_congr_left fun k _ => ?_
 simp [wdK]
theorem zzg {w : World} {so : Option Addr} {l : List UInt8} (h : Rb w so l) : Rb w so (xu l) := by
 obtain ⟨n, hn⟩ := qdi l
 have e : l.take (xu l).length = xu l := by
  rw [show l.take (xu l).length = (xu l ++ List.replicate n 0).take (xu l).length from congrArg (List.take _) hn, List.take_left]
 exact e ▸ h.takeZ _
theorem qmb {t : List UInt8} {m i k : Nat} (h : k < m) : (uC (wsI t m i))[k * 1]? = some (.int .u32 ((wdK t i k : Nat) : Int)) := by
 rw [Nat.mul_one]
 unfold uC wsI
 rw [List.map_map, List.getElem?_map, List.getElem?_range h]
 rfl
theorem zud {t : List UInt8} {m i : Nat} (hi : i < t.length) (hm : i / 4 < m) : over (uC (wsI t m i)) (i / 4 * 1) [.int .u32 ((wdK t (i + 1) (i / 4) : Nat) : Int)] = uC (wsI t m (i + 1)) := by
 rw [Nat.mul_one]
 show (uC (wsI t m i)).set (i / 4) _ = _
 refine List.ext_getElem? fun k => ?_
 have hl : (uC (wsI t m i)).length = m := by simp [uC, wsI]
 by_cases e : k = i / 4
 ·
  subst e
  rw [List.getElem?_set_self (by omega)]
  have := qmb (t := t) (i := i + 1) hm
  rw [Nat.mul_one] at this
  exact this.symm
 ·
  rw [List.getElem?_set_ne (fun k9 => e k9.symm)]
  by_cases hk : k < m
  ·
   have h1 := qmb (t := t) (i := i) hk
   have h2 := qmb (t := t) (i := i + 1) hk
   rw [Nat.mul_one] at h1 h2
   rw [h1, h2, zmj hi e]
  ·
   rw [List.getElem?_eq_none (by omega), List.getElem?_eq_none (by simp [uC, wsI]; omega)]
theorem zue {l : List UInt8} : wsI (xu l) (((xu l).length + 3) / 4) (xu l).length = words (leN l) := by
 unfold wsI
 rw [← zua l, ← qjf (xu l) (fun h => zff h), qsf]
 exact List.map_congr_left fun k _ => zzf
theorem pow256 {r : Nat} : 256 ^ r = 2 ^ (r * 8) := by
 rw [Nat.mul_comm, Nat.pow_mul]
theorem wd_or {t : List UInt8} {i : Nat} (hi : i < t.length) : bits .or .u32 ((wdK t i (i / 4) : Nat) : Int) (((t.getD i 0).toNat * 2 ^ (i % 4 * 8) : Nat) : Int) = ((wdK t (i + 1) (i / 4) : Nat) : Int) ∧ (t.getD i 0).toNat * 2 ^ (i % 4 * 8) < 4294967296 := by
 obtain ⟨h1, h2⟩ := zub hi
 have hx : t[i].toNat < 256 := UInt8.toNat_lt _
 have e : t.getD i 0 = t[i] := by rw [List.getD_eq_getElem?_getD, List.getElem?_eq_getElem hi]; rfl
 rw [e]
 have hp : 2 ^ (i % 4 * 8) ≤ 16777216 := by
  have : i % 4 = 0 ∨ i % 4 = 1 ∨ i % 4 = 2 ∨ i % 4 = 3 := by omega
  rcases this with h | h | h | h <;> rw [h] <;> decide
 have hb : t[i].toNat * 2 ^ (i % 4 * 8) < 4294967296 := by
  have := Nat.mul_le_mul (show t[i].toNat ≤ 255 by omega) hp
  omega
 rw [pow256] at h1 h2
 refine ⟨?_, hb⟩
 rw [or_u32 _ _ (by omega) hb, h1, ← Nat.shiftLeft_eq, or_add h2]
theorem qvj (x s : Nat) : ((x * 2 ^ s : Nat) : Int) = ((x : Nat) : Int) * 2 ^ s := by rw [Int.natCast_mul, Int.natCast_pow]; rfl
theorem kj {w : World} {so : Option Addr} {ca : Nat} {l : List UInt8} (hb : Rb w so l) (hca : l.length ≤ ca) (hl : l.length ≤ 64) : Calls Tryz.prog 74 #[.slice so l.length ca] w fun e w' => ∃ g1 g2 g3, e = .returned (.agg #[.bool false, .slice (some ⟨g1, 0, none⟩) (words (leN l)).length (words (leN l)).length, .slice (some ⟨g2, 0, none⟩) 1 2, .bool false, .slice none 0 0, .slice (some ⟨g3, 0, none⟩) 1 2]) ∧ Mg w w' [.row 77 1 (.slice (some ⟨g1, 0, none⟩) (words (leN l)).length (words (leN l)).length) (words (leN l)).length (uC (words (leN l))), .row 77 1 (.slice (some ⟨g2, 0, none⟩) 1 2) 1 [.int .u32 1], .row 77 1 (.slice (some ⟨g3, 0, none⟩) 1 2) 1 [.int .u32 1]] := by
 obtain ⟨t, ht⟩ : ∃ t, t = xu l := ⟨_, rfl⟩
 have hbt : Rb w so t := ht ▸ zzg hb
 have htl : t.length ≤ 64 := by
  obtain ⟨n, hn⟩ := qdi l
  have h9 := congrArg List.length hn
  rw [List.length_append, ← ht] at h9
  omega
 have M : Mg w w ([]) := Mg.start w
 refine qy (l := [(0, .slice so l.length ca)]) Tryz.func74 rfl Tryz.ntmps74 rfl rfl ?_
 intro Q hret hnorm hP a A
 refine wsk fun K1 hK1 => wrl (xm (vs := [.bool false, .slice none 0 0, .slice none 0 0, .bool false, .slice none 0 0, .slice none 0 0]) (t := 26) A M rfl rfl rfl pg (ql (z := .agg #[.bool false, .slice none 0 0, .slice none 0 0, .bool false, .slice none 0 0, .slice none 0 0]) (by kernel_rfl) rfl) (by decide) ?_)
 intro g2 w3 M a A
 refine qa (hK1 _ _ (wsk fun K4 hK4 => wrl (sdm A λa A↦?_)))
 refine qg A rfl rfl rfl (qb rfl rfl (fun w => by kernel_rfl)) ((show Calls Tryz.prog 116 _ _ (fun e w' => e = .returned (.slice so t.length ca) ∧ Below _ _ w') from ht ▸ qqc (hb.below M.bel) (by omega) hca)) ?_
 rintro _ w6 ⟨rfl, hb5⟩
 replace M := M.call hb5
 refine ⟨_, rfl, ?_⟩
 intro a A
 refine sda A λa A↦?_
 refine qa (hK4 _ _ (wsk fun K7 hK7 => wrl (sdm A λa A↦?_)))
 refine sdo A (zg Tryz.underlying31 rfl) λa A↦?_
 refine sdo (v := .int .i64 (((t.length + 4 : Nat) : Int))) A (qe rfl rfl (ar_add ((in_i64 (by omega) (by omega)).trans (by omega)))) λa A↦?_
 refine sdo (v := .int .i64 (((t.length + 3 : Nat) : Int))) A (qe rfl rfl (ar_sub ((in_i64 (by omega) (by omega)).trans (by omega)))) λa A↦?_
 refine sdo (v := .int .i64 ((((t.length + 3) / 4 : Nat) : Int))) A (qe rfl rfl (ar_quo (by decide) ((congrArg IntKind.i64.wrap (Int.tdiv_eq_ediv_of_nonneg (by omega))).trans ((in_i64 (by omega) (by omega)).trans (by omega))))) λa A↦?_
 refine qlj (z := .int .u32 0) (sz := 1) (by_ := 4) (m := (t.length + 3) / 4) A M Tryz.underlying22 (by kernel_rfl) rfl rfl rfl rfl rfl rfl (by omega) (by omega) (.inl (by decide)) ?_
 intro gw w8 M a A
 rw [zfg, zuc t] at M
 refine sda A λa A↦?_
 refine qa (hK7 _ _ (wsk fun K9 hK9 => wsk fun K10 hK10 => wrl (sdm A λa A↦?_)))
 refine sdo A (zg Tryz.underlying31 rfl) λa A↦?_
 refine sdm A λa A↦?_
 refine qa (hK10 _ _ (wp_block (js (fun m_ a w1 => ∃ (i : Nat), m_ = t.length - i ∧ (i ≤ t.length) ∧ Sl a 41 [(0, .slice so t.length ca), (2, .pointer (some ⟨g2, 0, none⟩)), (3, .slice (some ⟨gw, 0, none⟩) (((t.length + 3) / 4)) (((t.length + 3) / 4))), (7, .slice so l.length ca), (8, .slice so t.length ca), (9, .slice so t.length ca), (10, .int .i64 (((t.length : Nat) : Int))), (11, .int .i64 (((t.length + 4 : Nat) : Int))), (12, .int .i64 (((t.length + 3 : Nat) : Int))), (13, .int .i64 ((((t.length + 3) / 4 : Nat) : Int))), (14, .slice (some ⟨gw, 0, none⟩) (((t.length + 3) / 4)) (((t.length + 3) / 4))), (15, .slice so t.length ca), (16, .int .i64 (((t.length : Nat) : Int))), (17, .int .i64 (((i : Nat) : Int)))] ∧ Mg w w1 (.row 77 1 (.slice (some ⟨gw, 0, none⟩) (((t.length + 3) / 4)) (((t.length + 3) / 4))) (((t.length + 3) / 4)) ((uC (wsI t ((t.length + 3) / 4) i))) :: .obj g2 (.cells #[.bool false, .slice none 0 0, .slice none 0 0, .bool false, .slice none 0 0, .slice none 0 0] 26) :: [])) _ ⟨0, rfl, Nat.zero_le _, A.keep _ ⟨rfl, rfl, rfl, rfl, rfl, rfl, rfl, rfl, rfl, rfl, rfl, rfl, rfl, rfl, trivial⟩, M⟩ ?_)))
 clear M A
 rintro m_ a w11 ⟨i, rfl, hinv13, A, M⟩ K12 hK12
 have hi9 := hinv13
 refine wsk fun K14 hK14 => wrl ?_
 rcases tf (decide (((i : Nat) : Int) < ((t.length : Nat) : Int))) with hb15 | hb15
 ·
  have hb15' := of_decide_eq_true hb15
  refine sdo (v := .bool true) A (qe rfl rfl (fun w => (zt w).trans (by rw [hb15]))) λa A↦?_
  refine qa (hK14 _ _ (wsk fun K16 hK16 => wp_cond_true (A.ev rfl) ?_))
  refine wp_skip (hK16 _ _ (wsk fun K17 hK17 => wp_block (wsk fun K18 hK18 => wrl (sdm A λa A↦?_))))
  obtain ⟨bx, ox, hx1, hx2, hx3⟩ := zjc (i := i) hbt (by omega)
  have hX8 : (t.getD i 0).toNat < 256 := UInt8.toNat_lt _
  obtain ⟨hwo, hwb⟩ := wd_or (t := t) (i := i) (by omega)
  refine sdo (v := .pointer (some ⟨bx, ox + i, none⟩)) A (zw Tryz.underlying31 (by kernel_rfl) rfl rfl rfl hx1 (show i < t.length by omega)) λa A↦?_
  refine sdo (v := .int .u8 ((((t.getD i 0).toNat : Nat) : Int))) A (qfa M hx2 (hx3 i (by omega)) ByN_is1_5 rfl) λa A↦?_
  iterate 2 refine sda A λa A↦?_
  refine qa (hK18 _ _ (jc (S := fun w1 => Mg w w1 ([])) (by kernel_rfl) ?_))
  replace M := M.drew
  refine qh A 0 rfl rfl rfl rfl hP (M.sub (.cons _ (.cons _ (List.nil_sublist _)))) (fun w1 M => qz rfl) λa A↦?_
  refine qh A 1 rfl rfl rfl rfl hP (M.sub (.cons _ (.cons _ (List.nil_sublist _)))) (fun w1 M => qz rfl) λa A↦?_
  refine qh (v := .int .i64 ((((i) / 4 : Nat) : Int))) A 2 rfl rfl rfl rfl hP (M.sub (.cons _ (.cons _ (List.nil_sublist _)))) (fun w1 M => qe rfl rfl (ar_quo (by decide) ((congrArg IntKind.i64.wrap (Int.tdiv_eq_ediv_of_nonneg (by omega))).trans ((in_i64 (by omega) (by omega)).trans (by omega))))) λa A↦?_
  refine qh (v := .pointer (some ⟨gw, (i / 4) * 1, none⟩)) A 3 rfl rfl rfl rfl hP (M.sub (.cons _ (.cons _ (List.nil_sublist _)))) (fun w1 M => jg Tryz.underlying22 (by kernel_rfl) rfl rfl rfl (show i / 4 < (t.length + 3) / 4 by omega)) λa A↦?_
  refine qh A 5 rfl rfl rfl rfl hP (M.sub (.cons _ (.cons _ (List.nil_sublist _)))) (fun w1 M => qz rfl) λa A↦?_
  refine qh (v := .int .u32 ((((t.getD i 0).toNat : Nat) : Int))) A 6 rfl rfl rfl rfl hP (M.sub (.cons _ (.cons _ (List.nil_sublist _)))) (fun w1 M => xe rfl (ar_conv Tryz.underlying5 Tryz.underlying77 (in_u32 (by omega) (by omega)))) λa A↦?_
  refine qh A 7 rfl rfl rfl rfl hP (M.sub (.cons _ (.cons _ (List.nil_sublist _)))) (fun w1 M => qz rfl) λa A↦?_
  refine qh (v := .int .i64 (((i % 4 : Nat) : Int))) A 8 rfl rfl rfl rfl hP (M.sub (.cons _ (.cons _ (List.nil_sublist _)))) (fun w1 M => qe rfl rfl (ar_rem (by decide) ((Int.tmod_eq_emod_of_nonneg (by omega)).trans (by omega)))) λa A↦?_
  refine qh (v := .int .i64 (((i % 4 * 8 : Nat) : Int))) A 9 rfl rfl rfl rfl hP (M.sub (.cons _ (.cons _ (List.nil_sublist _)))) (fun w1 M => qe rfl rfl (ar_mul ((in_i64 (by omega) (by omega)).trans (by omega)))) λa A↦?_
  refine qh (v := .int .u32 ((((t.getD i 0).toNat * 2 ^ (i % 4 * 8) : Nat) : Int))) A 10 rfl rfl rfl rfl hP (M.sub (.cons _ (.cons _ (List.nil_sublist _)))) (fun w1 M => qe rfl rfl (ar_shl (n := i % 4 * 8) rfl (Nat.ble_eq_true_of_le (show i % 4 * 8 ≤ 32 by omega)) ((in_u32 (by rw [← qvj]; omega) (by rw [← qvj]; omega)).trans (qvj _ _).symm))) λa A↦?_
  refine qt (by kernel_rfl) (qgj (v := .int .u32 (((wdK t i (i / 4) : Nat) : Int))) A 4 rfl rfl rfl rfl (yk M 0 rfl (qmb (by omega)) ByN_is1_77 rfl) (M.sub (.cons _ (.cons _ (List.nil_sublist _)))) ?_)
  intro a A
  refine qh (v := .int .u32 (((wdK t (i + 1) (i / 4) : Nat) : Int))) A 11 rfl rfl rfl rfl hP (M.sub (.cons _ (.cons _ (List.nil_sublist _)))) (fun w1 M => qe rfl rfl (ar_or hwo)) λa A↦?_
  refine qh (v := .pointer (some ⟨gw, (i / 4) * 1, none⟩)) A 12 rfl rfl rfl rfl hP (M.sub (.cons _ (.cons _ (List.nil_sublist _)))) (fun w1 M => jg Tryz.underlying22 (by kernel_rfl) rfl rfl rfl (show i / 4 < (t.length + 3) / 4 by omega)) λa A↦?_
  refine qt (by kernel_rfl) (qdh (cs := [.int .u32 (((wdK t (i + 1) (i / 4) : Nat) : Int))]) (L' := (.row 77 1 (.slice (some ⟨gw, 0, none⟩) (((t.length + 3) / 4)) (((t.length + 3) / 4))) (((t.length + 3) / 4)) ((over (uC (wsI t ((t.length + 3) / 4) i)) ((i / 4) * 1) [.int .u32 (((wdK t (i + 1) (i / 4) : Nat) : Int))])) :: .obj g2 (.cells #[.bool false, .slice none 0 0, .slice none 0 0, .bool false, .slice none 0 0, .slice none 0 0] 26) :: [])) (us := []) A M 13 rfl rfl rfl (kt rfl rfl rfl (by kernel_rfl) M 0 rfl (show (i / 4) * 1 + 1 ≤ (t.length + 3) / 4 * 1 by omega) rfl) 0 rfl rfl ?_)
  intro w19 M
  replace M : Mg w w19 (.row 77 1 (.slice (some ⟨gw, 0, none⟩) (((t.length + 3) / 4)) (((t.length + 3) / 4))) (((t.length + 3) / 4)) ((uC (wsI t ((t.length + 3) / 4) (i + 1)))) :: .obj g2 (.cells #[.bool false, .slice none 0 0, .slice none 0 0, .bool false, .slice none 0 0, .slice none 0 0] 26) :: []) := by
   have h9 := M
   rw [zud (by omega) (by omega)] at h9
   exact h9
  refine ⟨(M.sub (.cons _ (.cons _ (List.nil_sublist _)))), ?_⟩
  refine zn (by kernel_rfl) ?_
  refine hK17 _ _ (wrl (sdo (v := .int .i64 (((i + 1 : Nat) : Int))) A (qe rfl rfl (ar_add ((in_i64 (by omega) (by omega)).trans (by omega)))) λa A↦?_))
  refine sdm A λa A↦?_
  refine qa ?_
  refine hK12 _ _ _ (by omega) ⟨i + 1, rfl, (by omega), A.keep _ ⟨rfl, rfl, rfl, rfl, rfl, rfl, rfl, rfl, rfl, rfl, rfl, rfl, rfl, rfl, trivial⟩, M⟩
 ·
  have hb15' := of_decide_eq_false hb15
  refine sdo (v := .bool false) A (qe rfl rfl (fun w => (zt w).trans (by rw [hb15]))) λa A↦?_
  refine qa (hK14 _ _ (wsk fun K20 hK20 => wp_cond_false (A.ev rfl) ?_))
  refine wp_exit (hK9 _ _ (wsk fun K21 hK21 => wrl (qg A rfl rfl rfl (qb rfl rfl (fun w => by kernel_rfl)) (ztj) ?_)))
  rintro _ w26 ⟨g22, g23, g24, rfl, hM25⟩
  replace M : Mg w w26 (.row 77 1 (.slice (some ⟨g22, 0, none⟩) 0 2) 0 ([]) :: .row 77 1 (.slice (some ⟨g23, 0, none⟩) 1 2) 1 ([.int .u32 1]) :: .row 77 1 (.slice (some ⟨g24, 0, none⟩) 1 2) 1 ([.int .u32 1]) :: .row 77 1 (.slice (some ⟨gw, 0, none⟩) (((t.length + 3) / 4)) (((t.length + 3) / 4))) (((t.length + 3) / 4)) ((uC (wsI t ((t.length + 3) / 4) i))) :: .obj g2 (.cells #[.bool false, .slice none 0 0, .slice none 0 0, .bool false, .slice none 0 0, .slice none 0 0] 26) :: []) := (M.both hM25 (qp (by simp) (qp (by simp) (zb zd))) (qp (by simp) (qp (by simp) (qp (by simp) (zb zd)))))
  refine ⟨_, rfl, ?_⟩
  intro a A
  refine xm (vs := [.bool false, .slice none 0 0, .slice none 0 0, .bool false, .slice none 0 0, .slice none 0 0]) (t := 26) A M rfl rfl rfl pg (ql (z := .agg #[.bool false, .slice none 0 0, .slice none 0 0, .bool false, .slice none 0 0, .slice none 0 0]) (by kernel_rfl) rfl) (by decide) ?_
  intro g27 w28 M a A
  refine vk (us := [.bool false, .slice (some ⟨g22, 0, none⟩) 0 2, .slice (some ⟨g23, 0, none⟩) 1 2, .bool false, .slice none 0 0, .slice (some ⟨g24, 0, none⟩) 1 2]) (L' := (.obj g27 (.cells #[.bool false, .slice (some ⟨g22, 0, none⟩) 0 2, .slice (some ⟨g23, 0, none⟩) 1 2, .bool false, .slice none 0 0, .slice (some ⟨g24, 0, none⟩) 1 2] 26) :: .row 77 1 (.slice (some ⟨g22, 0, none⟩) 0 2) 0 ([]) :: .row 77 1 (.slice (some ⟨g23, 0, none⟩) 1 2) 1 ([.int .u32 1]) :: .row 77 1 (.slice (some ⟨g24, 0, none⟩) 1 2) 1 ([.int .u32 1]) :: .row 77 1 (.slice (some ⟨gw, 0, none⟩) (((t.length + 3) / 4)) (((t.length + 3) / 4))) (((t.length + 3) / 4)) ((uC (wsI t ((t.length + 3) / 4) i))) :: .obj g2 (.cells #[.bool false, .slice none 0 0, .slice none 0 0, .bool false, .slice none 0 0, .slice none 0 0] 26) :: [])) A M rfl rfl (xa rfl rfl rfl (by kernel_rfl) M 0 rfl rfl rfl) 0 rfl rfl rfl ?_
  intro w29 M
  refine qa (hK21 _ _ (wsk fun K30 hK30 => wrl (sdm A λa A↦?_)))
  refine sdo (v := .pointer (some ⟨g27, 0, none⟩)) A (qf ByN_fld_26_0 rfl rfl) λa A↦?_
  refine sdo (v := .pointer (some ⟨g27, 1, none⟩)) A (qf ByN_fld_24_1 rfl rfl) λa A↦?_
  refine vk (us := [.bool false, .slice (some ⟨gw, 0, none⟩) (((t.length + 3) / 4)) (((t.length + 3) / 4)), .slice (some ⟨g23, 0, none⟩) 1 2, .bool false, .slice none 0 0, .slice (some ⟨g24, 0, none⟩) 1 2]) (L' := (.obj g27 (.cells #[.bool false, .slice (some ⟨gw, 0, none⟩) (((t.length + 3) / 4)) (((t.length + 3) / 4)), .slice (some ⟨g23, 0, none⟩) 1 2, .bool false, .slice none 0 0, .slice (some ⟨g24, 0, none⟩) 1 2] 26) :: .row 77 1 (.slice (some ⟨g22, 0, none⟩) 0 2) 0 ([]) :: .row 77 1 (.slice (some ⟨g23, 0, none⟩) 1 2) 1 ([.int .u32 1]) :: .row 77 1 (.slice (some ⟨g24, 0, none⟩) 1 2) 1 ([.int .u32 1]) :: .row 77 1 (.slice (some ⟨gw, 0, none⟩) (((t.length + 3) / 4)) (((t.length + 3) / 4))) (((t.length + 3) / 4)) ((uC (wsI t ((t.length + 3) / 4) i))) :: .obj g2 (.cells #[.bool false, .slice none 0 0, .slice none 0 0, .bool false, .slice none 0 0, .slice none 0 0] 26) :: [])) A M rfl rfl (xa rfl rfl rfl (by kernel_rfl) M 0 rfl rfl rfl) 0 rfl rfl rfl ?_
  intro w31 M
  refine qa (hK30 _ _ (wsk fun K32 hK32 => wrl (sdo A (jh M ByN_isS_26 rfl 0 rfl (cs := [.bool false, .slice (some ⟨gw, 0, none⟩) (((t.length + 3) / 4)) (((t.length + 3) / 4)), .slice (some ⟨g23, 0, none⟩) 1 2, .bool false, .slice none 0 0, .slice (some ⟨g24, 0, none⟩) 1 2]) rfl rfl) λa A↦?_)))
  refine vk (us := [.bool false, .slice (some ⟨gw, 0, none⟩) (((t.length + 3) / 4)) (((t.length + 3) / 4)), .slice (some ⟨g23, 0, none⟩) 1 2, .bool false, .slice none 0 0, .slice (some ⟨g24, 0, none⟩) 1 2]) (L' := (.obj g27 (.cells #[.bool false, .slice (some ⟨gw, 0, none⟩) (((t.length + 3) / 4)) (((t.length + 3) / 4)), .slice (some ⟨g23, 0, none⟩) 1 2, .bool false, .slice none 0 0, .slice (some ⟨g24, 0, none⟩) 1 2] 26) :: .row 77 1 (.slice (some ⟨g22, 0, none⟩) 0 2) 0 ([]) :: .row 77 1 (.slice (some ⟨g23, 0, none⟩) 1 2) 1 ([.int .u32 1]) :: .row 77 1 (.slice (some ⟨g24, 0, none⟩) 1 2) 1 ([.int .u32 1]) :: .row 77 1 (.slice (some ⟨gw, 0, none⟩) (((t.length + 3) / 4)) (((t.length + 3) / 4))) (((t.length + 3) / 4)) ((uC (wsI t ((t.length + 3) / 4) i))) :: .obj g2 (.cells #[.bool false, .slice (some ⟨gw, 0, none⟩) (((t.length + 3) / 4)) (((t.length + 3) / 4)), .slice (some ⟨g23, 0, none⟩) 1 2, .bool false, .slice none 0 0, .slice (some ⟨g24, 0, none⟩) 1 2] 26) :: [])) A M rfl rfl (xa rfl rfl rfl (by kernel_rfl) M 5 rfl rfl rfl) 5 rfl rfl rfl ?_
  intro w33 M
  refine qa (hK32 _ _ (wp_ret (hret _ _ (en1 A rfl (ki M ByN_isS_26 rfl 5 rfl (cs := [.bool false, .slice (some ⟨gw, 0, none⟩) (((t.length + 3) / 4)) (((t.length + 3) / 4)), .slice (some ⟨g23, 0, none⟩) 1 2, .bool false, .slice none 0 0, .slice (some ⟨g24, 0, none⟩) 1 2]) rfl rfl) ?_))))
  replace M : Mg w w33 (.row 77 1 (.slice (some ⟨g23, 0, none⟩) 1 2) 1 ([.int .u32 1]) :: .row 77 1 (.slice (some ⟨g24, 0, none⟩) 1 2) 1 ([.int .u32 1]) :: .row 77 1 (.slice (some ⟨gw, 0, none⟩) (((t.length + 3) / 4)) (((t.length + 3) / 4))) (((t.length + 3) / 4)) ((uC (wsI t ((t.length + 3) / 4) i))) :: []) := by
   have h9 := M.sub (.cons _ (.cons _ (.cons_cons _ (.cons_cons _ (.cons_cons _ (.cons _ (.refl _)))))))
   exact h9
  replace M : Mg w w33 (.row 77 1 (.slice (some ⟨g24, 0, none⟩) 1 2) 1 ([.int .u32 1]) :: .row 77 1 (.slice (some ⟨g23, 0, none⟩) 1 2) 1 ([.int .u32 1]) :: .row 77 1 (.slice (some ⟨gw, 0, none⟩) (((t.length + 3) / 4)) (((t.length + 3) / 4))) (((t.length + 3) / 4)) ((uC (wsI t ((t.length + 3) / 4) i))) :: []) := M.perm (List.perm_middle (l₁ := [_]))
  replace M : Mg w w33 (.row 77 1 (.slice (some ⟨g23, 0, none⟩) 1 2) 1 ([.int .u32 1]) :: .row 77 1 (.slice (some ⟨g24, 0, none⟩) 1 2) 1 ([.int .u32 1]) :: .row 77 1 (.slice (some ⟨gw, 0, none⟩) (((t.length + 3) / 4)) (((t.length + 3) / 4))) (((t.length + 3) / 4)) ((uC (wsI t ((t.length + 3) / 4) i))) :: []) := M.perm (List.perm_middle (l₁ := [_]))
  replace M : Mg w w33 (.row 77 1 (.slice (some ⟨gw, 0, none⟩) (((t.length + 3) / 4)) (((t.length + 3) / 4))) (((t.length + 3) / 4)) ((uC (wsI t ((t.length + 3) / 4) i))) :: .row 77 1 (.slice (some ⟨g23, 0, none⟩) 1 2) 1 ([.int .u32 1]) :: .row 77 1 (.slice (some ⟨g24, 0, none⟩) 1 2) 1 ([.int .u32 1]) :: []) := M.perm (List.perm_middle (l₁ := [_, _]))
  obtain rfl : i = t.length := by omega
  have e9 : wsI t ((t.length + 3) / 4) t.length = words (leN l) := by subst ht; exact zue
  have e8 : (t.length + 3) / 4 = (words (leN l)).length := by rw [← e9]; simp [wsI]
  rw [e9] at M
  rw [e8] at M ⊢
  exact ⟨gw, g23, g24, rfl, M⟩
def zfh (v : Value) : Bool := match v with | .int .u32 _ => false | _ => true
theorem zjd {v : Value} (h : zfh v = true) : ∀ n, v ≠ .int .u32 n := by
  rintro n rfl
  cases h
/-- What is read as words in the one world is so in the other. -/
def Carry (w w' : World) : Prop := ∀ o l, Rd w o l → Rd w' o l
theorem Carry.trans {w w' w'' : World} (h : Carry w w') (k : Carry w' w'') : Carry w w'' := fun o l r => k o l (h o l r)
theorem qic {w w' : World} {o : Option Addr} {c : Nat} {l : List Nat} (h : Sc w o c l) (hc : Carry w w') : Sc w' o c l := ⟨hc _ _ h.rd, h.nil, h.cap⟩
theorem xv {w w' : World} {q : Q6} {o1 o2 o3 o4 : Option Addr} {c1 c2 c3 c4 : Nat} (h : Nm w q o1 c1 o2 c2 o3 c3 o4 c4) (hc : Carry w w') : Nm w' q o1 c1 o2 c2 o3 c3 o4 c4 := ⟨qic h.s1 hc, qic h.s2 hc, qic h.s3 hc, qic h.s4 hc⟩
section
variable {P : Program} {w0 w : World} {L : List Ck} {l : List (Nat × Value)} {dst : Option Tmp} {ty : TypeId} {pos : String} {after : Array Edge} {guard : Option (Nat × Bool)} {v : Value}
theorem qpi {g : Nat} {t : TypeId} : ∀ (cs : List Value) (w : World) (L : List Ck) (vs : List Value) (o : Nat), Mg w0 w L → ∀ k : Nat, L[k]? = some (Ck.obj g (.cells vs.toArray t)) → o + cs.length ≤ vs.length → vs.all zfh = true → cs.all zfh = true → Carry w (w.setCells g o cs)
  | [], w, L, vs, o, h, k, hk, hl, h1, h2 => fun _ _ r => r
  | c :: cs, w, L, vs, o, h, k, hk, hl, h1, h2 => by
    have hp := h.put k hk o c
    have hk1 : (L.set k (.obj g (.cells (vs.set o c).toArray t)))[k]? = some (.obj g (.cells (vs.set o c).toArray t)) := List.getElem?_set_self (List.getElem?_eq_some_iff.1 hk).1
    simp only [List.length_cons] at hl
    simp only [List.all_cons, Bool.and_eq_true] at h2
    have hlt : o < vs.length := by omega
    have hv : (vs.set o c).all zfh = true := by
      rw [List.all_eq_true] at h1 ⊢
      intro x hx
      rcases List.mem_or_eq_of_mem_set hx with k | k
      · exact h1 x k
      · rw [k]; exact h2.1
    have hrec := qpi cs _ _ _ (o + 1) hp k hk1 (by rw [List.length_set]; omega) hv h2.2
    refine Carry.trans ?_ hrec
    intro so ls r
    exact Rd.setNo r (h.cell k hk o (List.getElem?_eq_getElem hlt)) (zjd (List.all_eq_true.1 h1 _ (List.getElem_mem hlt))) c
theorem qzj (w : World) (o : Obj) : Carry w (w.alloc o) := fun _ _ r => r.below ((Below.refl _ _).alloc (Nat.le_refl _) _)
variable {ops : List Oper} {Q : Exit → Act → World → Prop} {a : Act} {n : Nat} {o : Oper} {rest : List Oper} {d : Nat}
theorem ut (hA : Sl a n l) (hM : Mg w0 w L) (hg : zr l ops o = true) (hdst : o.dst = none) {g q : Nat} {cs vs us : List Value} {e : TypeId} (he : Sets P l o w (w.setCells g q cs)) (k : Nat) (hk0 : L[k]? = some (.obj g (.cells vs.toArray e))) (hus : over vs q cs = us) {L' : List Ck} (hL : L.set k (.obj g (.cells us.toArray e)) = L') (hl : Nat.ble (q + cs.length) vs.length = true) (h1 : vs.all zfh = true) (h2 : cs.all zfh = true)
    (hk : ∀ w', Mg w0 w' L' → Carry w w' → wpList P ops.toArray Q rest a w') : wpList P ops.toArray Q (o :: rest) a w :=
  uw hA hg hdst he (hk _ (by subst hus hL; exact Mg.puts cs w L vs q hM k hk0) (qpi cs w L vs q hM k hk0 (Nat.le_of_ble_eq_true hl) h1 h2))
theorem qwa (hA : Sl a n l) (hM : Mg w0 w L) (hg : zr l ops o = true) (hdst : o.dst = some d) (hd : Nat.blt d n = true) {vs : List Value} {t : TypeId} (val : Nat → Value) (he : Does P l o w (val w.heap.size) (w.alloc (.cells vs.toArray t))) (ht : t ≠ BY)
    (hk : ∀ g w', Mg w0 w' (.obj g (.cells vs.toArray t) :: L) → Carry w w' → ∀ a', Sl a' n ((d, val g) :: l) → wpList P ops.toArray Q rest a' w') : wpList P ops.toArray Q (o :: rest) a w :=
  kv hA hg hdst hd he (hk _ _ (hM.addObj _ (qdf ht)) (qzj _ _))
end
theorem ByO_is1_3 : Is1 Tryz.prog 3 := ⟨⟨_, Tryz.underlying3, rfl⟩, by kernel_rfl⟩
theorem ByO_is1_4 : Is1 Tryz.prog 4 := ⟨⟨_, Tryz.underlying4, rfl⟩, by kernel_rfl⟩
theorem ByO_is1_5 : Is1 Tryz.prog 5 := ⟨⟨_, Tryz.underlying5, rfl⟩, by kernel_rfl⟩
theorem ByO_fld_65_0 : FieldAt Tryz.prog 65 0 0 := ⟨_, _, Tryz.underlying65, rfl, rfl, by kernel_rfl⟩
theorem ByO_fld_65_2 : FieldAt Tryz.prog 65 2 2 := ⟨_, _, Tryz.underlying65, rfl, rfl, by kernel_rfl⟩
theorem ByO_isS_26 : IsS Tryz.prog 26 6 := ⟨⟨_, Tryz.underlying26⟩, by kernel_rfl⟩
theorem ByO_isS_65 : IsS Tryz.prog 65 3 := ⟨⟨_, Tryz.underlying65⟩, by kernel_rfl⟩
def zm (l : List UInt8) (i : Nat) : List UInt8 := (l.take i).map (fun b => 255 - b) ++ l.drop i
theorem ku (l : List UInt8) (i : Nat) : (zm l i).length = l.length := by unfold zm; simp; omega
theorem zaa (l : List UInt8) : zm l l.length = l.map (fun b => 255 - b) := by simp [zm]
theorem zje (b : UInt8) : (255 - b).toNat = 255 - b.toNat := by
 have h := UInt8.toNat_lt b
 rw [UInt8.toNat_sub_of_le]
 ·
  rfl
 ·
  rw [UInt8.le_iff_toNat_le]
  show b.toNat ≤ 255
  omega
theorem kk {l : List UInt8} {i : Nat} (h : i < l.length) : (Lib.byteCells l)[i * 1]? = some (.int .u8 (((l.getD i 0).toNat : Nat) : Int)) := by
 rw [Nat.mul_one]
 unfold Lib.byteCells
 rw [List.getElem?_map, List.getElem?_eq_getElem h, List.getD_eq_getElem?_getD, List.getElem?_eq_getElem h]
 rfl
theorem zab {l : List UInt8} {i : Nat} (h : i < l.length) : (Lib.byteCells (zm l i))[i * 1]? = some (.int .u8 (((l.getD i 0).toNat : Nat) : Int)) := by
 have h1 := kk (l := zm l i) (i := i) (by rw [ku]; exact h)
 have e : (zm l i).getD i 0 = l.getD i 0 := by
  unfold zm
  rw [List.getD_eq_getElem?_getD, List.getElem?_append_right (by simp; omega)]
  simp only [List.length_map, List.length_take]
  rw [List.getElem?_drop, List.getD_eq_getElem?_getD]
  congr 2
  omega
 rw [e] at h1
 exact h1
theorem qsg {l : List UInt8} {i : Nat} (h : i < l.length) : over (Lib.byteCells (zm l i)) (i * 1) [.int .u8 ((255 - (l.getD i 0).toNat : Nat) : Int)] = Lib.byteCells (zm l (i + 1)) := by
 rw [Nat.mul_one]
 show (Lib.byteCells (zm l i)).set i _ = _
 have e : l.getD i 0 = l[i] := by rw [List.getD_eq_getElem?_getD, List.getElem?_eq_getElem h]; rfl
 rw [e, ← zje]
 unfold Lib.byteCells zm
 rw [List.take_succ_eq_append_getElem h, List.drop_eq_getElem_cons h]
 simp only [List.map_append, List.map_cons, List.map_nil, List.append_assoc, List.cons_append, List.nil_append]
 rw [List.set_append_right _ _ (by simp; omega)]
 congr 1
 simp only [List.length_map, List.length_take, Nat.min_eq_left (Nat.le_of_lt h), Nat.sub_self, List.set_cons_zero]
theorem zac (l : List UInt8) : leN (l.map fun b => 255 - b) + leN l + 1 = 256 ^ l.length := by
 induction l with
 | nil => simp [leN]
 | cons b t ih =>
  have h := UInt8.toNat_lt b
  simp only [List.map_cons, leN, List.length_cons, zje]
  rw [Nat.pow_succ]
  omega
theorem zuf : ∀ x : Fin 256, bits .xor .u8 (if IntKind.u8.signed = true then -1 else IntKind.u8.max) ((x.val : Nat) : Int) = ((255 - x.val : Nat) : Int) := by decide +kernel
theorem zjf {P : Program} {x : Nat} (h : x < 256) : ∀ w, (Op.unary .xor (.int .u8 ((x : Nat) : Int))).run P w = .ok (.int .u8 ((255 - x : Nat) : Int)) w := fun w => by
 have e := zuf ⟨x, h⟩
 simp [go_sem]
 exact e
def qbb (bg : Bool) (p : List UInt8) : List UInt8 := if bg = true then p.reverse else p
def ka (bg sg : Bool) (p : List UInt8) : Q6 := if sg = true ∧ 128 ≤ ((qbb bg p).getD (p.length - 1) 0).toNat then Q6.whole true (256 ^ p.length - leN (qbb bg p)) else Q6.whole false (leN (qbb bg p))
theorem qfc {w0 w : World} {L : List Ck} (M : Mg w0 w L) (k : Nat) {g x : Nat} (hk : L[k]? = some (.row 77 1 (.slice (some ⟨g, 0, none⟩) (words x).length (words x).length) (words x).length (uC (words x)))) : Sc w (some ⟨g, 0, none⟩) (words x).length (words x) := by
 have hr : w.ownsRow w0.heap.size 77 1 (.slice (some ⟨g, 0, none⟩) (words x).length (words x).length) (words x).length (uC (words x)) := M.has k hk
 refine ⟨⟨words_dig x, fun hne => ⟨g, 0, rfl, qvi M k hk, fun j hj => ?_⟩⟩, (fun h => (by cases h)), Nat.le_refl _⟩
 rw [Nat.zero_add]
 refine qba M k hk j _ ?_
 unfold uC
 rw [List.getElem?_map, List.getElem?_eq_getElem hj, List.getD_eq_getElem?_getD, List.getElem?_eq_getElem hj]
 rfl
theorem zjg (bg : Bool) (p : List UInt8) : (qbb bg p).length = p.length := by unfold qbb; split <;> simp
theorem want0 {x : Nat} (hx : (words x).length ≤ 512) : ji (Q6.whole false x) = 0 := by
 unfold ji jv
 rw [vb hx (by simp)]
 simp [Q6.whole]
theorem qlb {x n : Nat} (hn : n ≤ 64) (h : x ≤ 256 ^ n) : (words x).length ≤ 512 := by
 have h1 : 256 ^ n ≤ 256 ^ 64 := Nat.pow_le_pow_right (by decide) hn
 have h2 : (256 : Nat) ^ 64 < pw 17 := by unfold pw; decide
 have h3 : (words x).length ≤ 17 := words_length_iff.2 (Nat.lt_of_le_of_lt (Nat.le_trans h h1) h2)
 omega
theorem qsh {w : World} {x n : Nat} (hn : n ≤ 64) (h : x < 256 ^ n) {o1 o2 o3 o4 : Option Addr} {c1 c2 c3 c4 : Nat} (ha : Nm w (Q6.whole false x) o1 c1 o2 c2 o3 c3 o4 c4) : Calls Tryz.prog 75 #[jx (Q6.whole false x) o1 c1 o2 c2 o3 c3 o4 c4] w (AnsN w (Q6.whole true (x + 1), 0)) := by
 have h1 := qlb hn (Nat.le_of_lt h)
 have h2 : (words (x + 1)).length ≤ 512 := qlb hn h
 have k := zoi ha (xq h1) (want0 h1) h1 (by simp)
 rw [qmi (want0 h1), show qwg false x = x + 1 from rfl, yf h2] at k
 exact k
theorem qid {w : World} {sp : Option Addr} {cp : Nat} {p : List UInt8} (hp : Rb w sp p) (hl1 : 1 ≤ p.length) (hl64 : p.length ≤ 64) : Calls Tryz.prog 29 #[.agg #[.int .i64 ((p.length : Nat) : Int), .bool true, .bool false], .slice sp p.length cp] w (AnsV w (ka true false p)) := by
 have M : Mg w w ([]) := Mg.start w
 refine qy (l := [(0, .agg #[.int .i64 (((p.length : Nat) : Int)), .bool true, .bool false]), (1, .slice sp p.length cp)]) Tryz.func29 rfl Tryz.ntmps29 rfl rfl ?_
 intro Q hret hnorm hP a A
 refine wsk fun K1 hK1 => wrl (xm (vs := [.int .i64 (((p.length : Nat) : Int)), .bool true, .bool false]) (t := 65) A M rfl rfl rfl pg (qw rfl rfl) (by decide) ?_)
 intro g2 w3 M a A
 refine xm (vs := [.bool false, .slice none 0 0, .slice none 0 0, .bool false, .slice none 0 0, .slice none 0 0]) (t := 26) A M rfl rfl rfl pg (ql (z := .agg #[.bool false, .slice none 0 0, .slice none 0 0, .bool false, .slice none 0 0, .slice none 0 0]) (by kernel_rfl) rfl) (by decide) ?_
 intro g4 w5 M a A
 refine qa (hK1 _ _ (wsk fun K6 hK6 => wrl (sdo A (jh M ByO_isS_65 rfl 1 rfl (cs := [.int .i64 (((p.length : Nat) : Int)), .bool true, .bool false]) rfl rfl) λa A↦?_)))
 refine sdm A λa A↦?_
 refine qg A rfl rfl rfl (qb rfl rfl (fun w => by kernel_rfl)) (yu (hp.below M.bel) (by omega)) ?_
 rintro _ w9 ⟨g7, rfl, hM8⟩
 replace M : Mg w w9 (.row BY 1 (.slice (some ⟨g7, 0, none⟩) p.length p.length) p.length ((Lib.byteCells p.reverse)) :: .obj g4 (.cells #[.bool false, .slice none 0 0, .slice none 0 0, .bool false, .slice none 0 0, .slice none 0 0] 26) :: .obj g2 (.cells #[.int .i64 (((p.length : Nat) : Int)), .bool true, .bool false] 65) :: []) := (M.both hM8 (qp (by simp) (qp (by simp) (zb zd))) (qp (by simp) (zb zd)))
 refine ⟨_, rfl, ?_⟩
 intro a A
 refine sda A λa A↦?_
 refine qa (hK6 _ _ (wsk fun K10 hK10 => wsk fun K11 hK11 => wrl (sdo (v := .pointer (some ⟨g2, 2, none⟩)) A (qf ByO_fld_65_2 rfl rfl) λa A↦?_)))
 refine sdo A (zq M ByO_is1_4 rfl 2 rfl rfl) λa A↦?_
 refine sdo (v := .bool true) A (zk rfl zv) λa A↦?_
 refine sdm A λa A↦?_
 iterate 7 refine ze A rfl rfl rfl λa A↦?_
 refine sdk (v := .bool true) A λa A↦?_
 refine qa (hK11 _ _ (wp_cond_true (A.ev rfl) ?_))
 refine wsk fun K12 hK12 => wrl (sdm A λa A↦?_)
 have hx17 : (p.reverse).length = p.length := by simp [ku]
 refine qg A rfl rfl rfl (qb rfl rfl (fun w => by kernel_rfl)) ((by have h9 := kj (w := w9) (l := p.reverse) (ui (bs := p.reverse) M 0 rfl).1 (ca := p.length) (by omega) (by omega); rw [hx17] at h9; exact h9)) ?_
 rintro _ w18 ⟨g13, g14, g15, rfl, hM16⟩
 replace M : Mg w w18 (.row 77 1 (.slice (some ⟨g13, 0, none⟩) ((words (leN p.reverse)).length) ((words (leN p.reverse)).length)) ((words (leN p.reverse)).length) ((uC (words (leN p.reverse)))) :: .row 77 1 (.slice (some ⟨g14, 0, none⟩) 1 2) 1 ([.int .u32 1]) :: .row 77 1 (.slice (some ⟨g15, 0, none⟩) 1 2) 1 ([.int .u32 1]) :: .row BY 1 (.slice (some ⟨g7, 0, none⟩) p.length p.length) p.length ((Lib.byteCells p.reverse)) :: .obj g4 (.cells #[.bool false, .slice none 0 0, .slice none 0 0, .bool false, .slice none 0 0, .slice none 0 0] 26) :: .obj g2 (.cells #[.int .i64 (((p.length : Nat) : Int)), .bool true, .bool false] 65) :: []) := (M.both hM16 (qp (by simp) (qp (by simp) (qp (by simp) (zb zd)))) (qp (by simp) (qp (by simp) (qp (by simp) (zb zd)))))
 refine ⟨_, rfl, ?_⟩
 intro a A
 refine vk (us := [.bool false, .slice (some ⟨g13, 0, none⟩) ((words (leN p.reverse)).length) ((words (leN p.reverse)).length), .slice (some ⟨g14, 0, none⟩) 1 2, .bool false, .slice none 0 0, .slice (some ⟨g15, 0, none⟩) 1 2]) (L' := (.row 77 1 (.slice (some ⟨g13, 0, none⟩) ((words (leN p.reverse)).length) ((words (leN p.reverse)).length)) ((words (leN p.reverse)).length) ((uC (words (leN p.reverse)))) :: .row 77 1 (.slice (some ⟨g14, 0, none⟩) 1 2) 1 ([.int .u32 1]) :: .row 77 1 (.slice (some ⟨g15, 0, none⟩) 1 2) 1 ([.int .u32 1]) :: .row BY 1 (.slice (some ⟨g7, 0, none⟩) p.length p.length) p.length ((Lib.byteCells p.reverse)) :: .obj g4 (.cells #[.bool false, .slice (some ⟨g13, 0, none⟩) ((words (leN p.reverse)).length) ((words (leN p.reverse)).length), .slice (some ⟨g14, 0, none⟩) 1 2, .bool false, .slice none 0 0, .slice (some ⟨g15, 0, none⟩) 1 2] 26) :: .obj g2 (.cells #[.int .i64 (((p.length : Nat) : Int)), .bool true, .bool false] 65) :: [])) A M rfl rfl (xa rfl rfl rfl (by kernel_rfl) M 4 rfl rfl rfl) 4 rfl rfl rfl ?_
 intro w19 M
 refine qa (hK12 _ _ (wp_ret (hret _ _ (en1 A rfl (ki M ByO_isS_26 rfl 4 rfl (cs := [.bool false, .slice (some ⟨g13, 0, none⟩) ((words (leN p.reverse)).length) ((words (leN p.reverse)).length), .slice (some ⟨g14, 0, none⟩) 1 2, .bool false, .slice none 0 0, .slice (some ⟨g15, 0, none⟩) 1 2]) rfl rfl) ?_))))
 have e9 : ka true false p = Q6.whole false (leN p.reverse) := by unfold ka; rw [if_neg (fun h => (by cases h.1))]; rfl
 rw [e9]
 exact ⟨_, _, _, _, _, _, _, _, rfl, ⟨qfc M 0 rfl, yi (x := 1) M 1 rfl (by decide), qje, yi (x := 1) M 2 rfl (by decide)⟩, M.bel⟩
theorem uu {w : World} {sp : Option Addr} {cp : Nat} {p : List UInt8} (hp : Rb w sp p) (hl1 : 1 ≤ p.length) (hl64 : p.length ≤ 64) : Calls Tryz.prog 29 #[.agg #[.int .i64 ((p.length : Nat) : Int), .bool true, .bool true], .slice sp p.length cp] w (AnsV w (ka true true p)) := by
 have M : Mg w w ([]) := Mg.start w
 refine qy (l := [(0, .agg #[.int .i64 (((p.length : Nat) : Int)), .bool true, .bool true]), (1, .slice sp p.length cp)]) Tryz.func29 rfl Tryz.ntmps29 rfl rfl ?_
 intro Q hret hnorm hP a A
 refine wsk fun K1 hK1 => wrl (xm (vs := [.int .i64 (((p.length : Nat) : Int)), .bool true, .bool true]) (t := 65) A M rfl rfl rfl pg (qw rfl rfl) (by decide) ?_)
 intro g2 w3 M a A
 refine xm (vs := [.bool false, .slice none 0 0, .slice none 0 0, .bool false, .slice none 0 0, .slice none 0 0]) (t := 26) A M rfl rfl rfl pg (ql (z := .agg #[.bool false, .slice none 0 0, .slice none 0 0, .bool false, .slice none 0 0, .slice none 0 0]) (by kernel_rfl) rfl) (by decide) ?_
 intro g4 w5 M a A
 refine qa (hK1 _ _ (wsk fun K6 hK6 => wrl (sdo A (jh M ByO_isS_65 rfl 1 rfl (cs := [.int .i64 (((p.length : Nat) : Int)), .bool true, .bool true]) rfl rfl) λa A↦?_)))
 refine sdm A λa A↦?_
 refine qg A rfl rfl rfl (qb rfl rfl (fun w => by kernel_rfl)) (yu (hp.below M.bel) (by omega)) ?_
 rintro _ w9 ⟨g7, rfl, hM8⟩
 replace M : Mg w w9 (.row BY 1 (.slice (some ⟨g7, 0, none⟩) p.length p.length) p.length ((Lib.byteCells p.reverse)) :: .obj g4 (.cells #[.bool false, .slice none 0 0, .slice none 0 0, .bool false, .slice none 0 0, .slice none 0 0] 26) :: .obj g2 (.cells #[.int .i64 (((p.length : Nat) : Int)), .bool true, .bool true] 65) :: []) := (M.both hM8 (qp (by simp) (qp (by simp) (zb zd))) (qp (by simp) (zb zd)))
 refine ⟨_, rfl, ?_⟩
 intro a A
 refine sda A λa A↦?_
 refine qa (hK6 _ _ (wsk fun K10 hK10 => wsk fun K11 hK11 => wrl (sdo (v := .pointer (some ⟨g2, 2, none⟩)) A (qf ByO_fld_65_2 rfl rfl) λa A↦?_)))
 refine sdo A (zq M ByO_is1_4 rfl 2 rfl rfl) λa A↦?_
 refine sdo (v := .bool false) A (zk rfl zv) λa A↦?_
 iterate 2 refine sdm A λa A↦?_
 refine sdo (v := .pointer (some ⟨g2, 0, none⟩)) A (qf ByO_fld_65_0 rfl rfl) λa A↦?_
 refine sdo A (zq M ByO_is1_3 rfl 2 rfl rfl) λa A↦?_
 refine sdo (v := .int .i64 (((p.length - 1 : Nat) : Int))) A (qe rfl rfl (ar_sub ((in_i64 (by omega) (by omega)).trans (by omega)))) λa A↦?_
 refine sdo (v := .pointer (some ⟨g7, (p.length - 1) * 1, none⟩)) A (jg Tryz.underlying31 (by kernel_rfl) rfl rfl rfl (show p.length - 1 < p.length by omega)) λa A↦?_
 refine sdo (v := .int .u8 ((((p.reverse.getD (p.length - 1) 0).toNat : Nat) : Int))) A (yk M 0 rfl (kk (l := p.reverse) (i := p.length - 1) (by simp only [List.length_reverse]; omega)) ByO_is1_5 rfl) λa A↦?_
 rcases tf (decide ((((p.reverse.getD (p.length - 1) 0).toNat : Nat) : Int) < 128)) with hb12 | hb12
 ·
  have hb12' := of_decide_eq_true hb12
  refine sdo (v := .bool true) A (qe rfl rfl (fun w => (zt w).trans (by rw [hb12]))) λa A↦?_
  refine sdk (v := .bool true) A λa A↦?_
  refine qa (hK11 _ _ (wp_cond_true (A.ev rfl) ?_))
  refine wsk fun K13 hK13 => wrl (sdm A λa A↦?_)
  have hx18 : (p.reverse).length = p.length := by simp [ku]
  refine qg A rfl rfl rfl (qb rfl rfl (fun w => by kernel_rfl)) ((by have h9 := kj (w := w9) (l := p.reverse) (ui (bs := p.reverse) M 0 rfl).1 (ca := p.length) (by omega) (by omega); rw [hx18] at h9; exact h9)) ?_
  rintro _ w19 ⟨g14, g15, g16, rfl, hM17⟩
  replace M : Mg w w19 (.row 77 1 (.slice (some ⟨g14, 0, none⟩) ((words (leN p.reverse)).length) ((words (leN p.reverse)).length)) ((words (leN p.reverse)).length) ((uC (words (leN p.reverse)))) :: .row 77 1 (.slice (some ⟨g15, 0, none⟩) 1 2) 1 ([.int .u32 1]) :: .row 77 1 (.slice (some ⟨g16, 0, none⟩) 1 2) 1 ([.int .u32 1]) :: .row BY 1 (.slice (some ⟨g7, 0, none⟩) p.length p.length) p.length ((Lib.byteCells p.reverse)) :: .obj g4 (.cells #[.bool false, .slice none 0 0, .slice none 0 0, .bool false, .slice none 0 0, .slice none 0 0] 26) :: .obj g2 (.cells #[.int .i64 (((p.length : Nat) : Int)), .bool true, .bool true] 65) :: []) := (M.both hM17 (qp (by simp) (qp (by simp) (qp (by simp) (zb zd)))) (qp (by simp) (qp (by simp) (qp (by simp) (zb zd)))))
  refine ⟨_, rfl, ?_⟩
  intro a A
  refine vk (us := [.bool false, .slice (some ⟨g14, 0, none⟩) ((words (leN p.reverse)).length) ((words (leN p.reverse)).length), .slice (some ⟨g15, 0, none⟩) 1 2, .bool false, .slice none 0 0, .slice (some ⟨g16, 0, none⟩) 1 2]) (L' := (.row 77 1 (.slice (some ⟨g14, 0, none⟩) ((words (leN p.reverse)).length) ((words (leN p.reverse)).length)) ((words (leN p.reverse)).length) ((uC (words (leN p.reverse)))) :: .row 77 1 (.slice (some ⟨g15, 0, none⟩) 1 2) 1 ([.int .u32 1]) :: .row 77 1 (.slice (some ⟨g16, 0, none⟩) 1 2) 1 ([.int .u32 1]) :: .row BY 1 (.slice (some ⟨g7, 0, none⟩) p.length p.length) p.length ((Lib.byteCells p.reverse)) :: .obj g4 (.cells #[.bool false, .slice (some ⟨g14, 0, none⟩) ((words (leN p.reverse)).length) ((words (leN p.reverse)).length), .slice (some ⟨g15, 0, none⟩) 1 2, .bool false, .slice none 0 0, .slice (some ⟨g16, 0, none⟩) 1 2] 26) :: .obj g2 (.cells #[.int .i64 (((p.length : Nat) : Int)), .bool true, .bool true] 65) :: [])) A M rfl rfl (xa rfl rfl rfl (by kernel_rfl) M 4 rfl rfl rfl) 4 rfl rfl rfl ?_
  intro w20 M
  refine qa (hK13 _ _ (wp_ret (hret _ _ (en1 A rfl (ki M ByO_isS_26 rfl 4 rfl (cs := [.bool false, .slice (some ⟨g14, 0, none⟩) ((words (leN p.reverse)).length) ((words (leN p.reverse)).length), .slice (some ⟨g15, 0, none⟩) 1 2, .bool false, .slice none 0 0, .slice (some ⟨g16, 0, none⟩) 1 2]) rfl rfl) ?_))))
  have e9 : ka true true p = Q6.whole false (leN p.reverse) := by unfold ka; rw [if_neg (fun h => (by have h9 : 128 ≤ ((p.reverse).getD (p.length - 1) 0).toNat := h.2; omega))]; rfl
  rw [e9]
  exact ⟨_, _, _, _, _, _, _, _, rfl, ⟨qfc M 0 rfl, yi (x := 1) M 1 rfl (by decide), qje, yi (x := 1) M 2 rfl (by decide)⟩, M.bel⟩
 ·
  have hb12' := of_decide_eq_false hb12
  refine sdo (v := .bool false) A (qe rfl rfl (fun w => (zt w).trans (by rw [hb12]))) λa A↦?_
  refine sdk (v := .bool false) A λa A↦?_
  refine qa (hK11 _ _ (wp_cond_false (A.ev rfl) ?_))
  refine wp_skip (hK10 _ _ (wsk fun K21 hK21 => wsk fun K22 hK22 => wrl (sdm A λa A↦?_)))
  refine sdo A (zg Tryz.underlying31 rfl) λa A↦?_
  refine sdm A λa A↦?_
  refine qa (hK22 _ _ (wp_block (js (fun m_ a w1 => ∃ (i : Nat), m_ = p.length - i ∧ (i ≤ p.length) ∧ Sl a 47 [(0, .agg #[.int .i64 (((p.length : Nat) : Int)), .bool true, .bool true]), (1, .slice sp p.length cp), (2, .pointer (some ⟨g2, 0, none⟩)), (4, .pointer (some ⟨g4, 0, none⟩)), (5, .slice (some ⟨g7, 0, none⟩) p.length p.length), (9, .agg #[.int .i64 (((p.length : Nat) : Int)), .bool true, .bool true]), (10, .slice sp p.length cp), (11, .slice (some ⟨g7, 0, none⟩) p.length p.length), (12, .pointer (some ⟨g2, 2, none⟩)), (13, .bool true), (14, .bool false), (15, .bool false), (16, .slice (some ⟨g7, 0, none⟩) p.length p.length), (17, .pointer (some ⟨g2, 0, none⟩)), (18, .int .i64 (((p.length : Nat) : Int))), (19, .int .i64 (((p.length - 1 : Nat) : Int))), (20, .pointer (some ⟨g7, (p.length - 1) * 1, none⟩)), (21, .int .u8 ((((p.reverse.getD (p.length - 1) 0).toNat : Nat) : Int))), (22, .bool false), (23, .bool false), (26, .slice (some ⟨g7, 0, none⟩) p.length p.length), (27, .int .i64 (((p.length : Nat) : Int))), (28, .int .i64 (((i : Nat) : Int)))] ∧ Mg w w1 (.row BY 1 (.slice (some ⟨g7, 0, none⟩) p.length p.length) p.length ((Lib.byteCells (zm p.reverse i))) :: .obj g4 (.cells #[.bool false, .slice none 0 0, .slice none 0 0, .bool false, .slice none 0 0, .slice none 0 0] 26) :: .obj g2 (.cells #[.int .i64 (((p.length : Nat) : Int)), .bool true, .bool true] 65) :: [])) _ ⟨0, rfl, Nat.zero_le _, A.keep _ ⟨rfl, rfl, rfl, rfl, rfl, rfl, rfl, rfl, rfl, rfl, rfl, rfl, rfl, rfl, rfl, rfl, rfl, rfl, rfl, rfl, rfl, rfl, rfl, trivial⟩, M⟩ ?_)))
  clear M A
  rintro m_ a w23 ⟨i, rfl, hinv25, A, M⟩ K24 hK24
  have hi9 := hinv25
  refine wsk fun K26 hK26 => wrl ?_
  rcases tf (decide (((i : Nat) : Int) < ((p.length : Nat) : Int))) with hb27 | hb27
  ·
   have hb27' := of_decide_eq_true hb27
   refine sdo (v := .bool true) A (qe rfl rfl (fun w => (zt w).trans (by rw [hb27]))) λa A↦?_
   refine qa (hK26 _ _ (wsk fun K28 hK28 => wp_cond_true (A.ev rfl) ?_))
   refine wp_skip (hK28 _ _ (wsk fun K29 hK29 => wp_block (wsk fun K30 hK30 => wrl (sdm A λa A↦?_))))
   refine sda A λa A↦?_
   refine qa (hK30 _ _ (wrl ?_))
   iterate 4 refine sdm A λa A↦?_
   refine sdo (v := .pointer (some ⟨g7, (i) * 1, none⟩)) A (jg Tryz.underlying31 (by kernel_rfl) rfl rfl rfl (show i < p.length by omega)) λa A↦?_
   refine sdo (v := .int .u8 ((((p.reverse.getD (i) 0).toNat : Nat) : Int))) A (yk M 0 rfl (zab (l := p.reverse) (i := i) (by simp only [List.length_reverse]; omega)) ByO_is1_5 rfl) λa A↦?_
   have hX8 : (p.reverse.getD i 0).toNat < 256 := UInt8.toNat_lt _
   refine sdo (v := .int .u8 (((255 - (p.reverse.getD i 0).toNat : Nat) : Int))) A (zk rfl (zjf hX8)) λa A↦?_
   refine sdo (v := .pointer (some ⟨g7, (i) * 1, none⟩)) A (jg Tryz.underlying31 (by kernel_rfl) rfl rfl rfl (show i < p.length by omega)) λa A↦?_
   refine qzh (cs := [.int .u8 (((255 - (p.reverse.getD i 0).toNat : Nat) : Int))]) (L' := (.row BY 1 (.slice (some ⟨g7, 0, none⟩) p.length p.length) p.length ((over (Lib.byteCells (zm p.reverse i)) ((i) * 1) [.int .u8 (((255 - (p.reverse.getD i 0).toNat : Nat) : Int))])) :: .obj g4 (.cells #[.bool false, .slice none 0 0, .slice none 0 0, .bool false, .slice none 0 0, .slice none 0 0] 26) :: .obj g2 (.cells #[.int .i64 (((p.length : Nat) : Int)), .bool true, .bool true] 65) :: [])) (us := []) A M rfl rfl (kt rfl rfl rfl (by kernel_rfl) M 0 rfl (show (i) * 1 + 1 ≤ p.length * 1 by omega) rfl) 0 rfl rfl ?_
   intro w31 M
   replace M : Mg w w31 (.row BY 1 (.slice (some ⟨g7, 0, none⟩) p.length p.length) p.length ((Lib.byteCells (zm p.reverse (i + 1)))) :: .obj g4 (.cells #[.bool false, .slice none 0 0, .slice none 0 0, .bool false, .slice none 0 0, .slice none 0 0] 26) :: .obj g2 (.cells #[.int .i64 (((p.length : Nat) : Int)), .bool true, .bool true] 65) :: []) := by
    have h9 := M
    rw [qsg (l := p.reverse) (by simp only [List.length_reverse]; omega)] at h9
    exact h9
   refine qa (hK29 _ _ (wrl (sdo (v := .int .i64 (((i + 1 : Nat) : Int))) A (qe rfl rfl (ar_add ((in_i64 (by omega) (by omega)).trans (by omega)))) λa A↦?_)))
   refine sdm A λa A↦?_
   refine qa ?_
   refine hK24 _ _ _ (by omega) ⟨i + 1, rfl, (by omega), A.keep _ ⟨rfl, rfl, rfl, rfl, rfl, rfl, rfl, rfl, rfl, rfl, rfl, rfl, rfl, rfl, rfl, rfl, rfl, rfl, rfl, rfl, rfl, rfl, rfl, trivial⟩, M⟩
  ·
   have hb27' := of_decide_eq_false hb27
   refine sdo (v := .bool false) A (qe rfl rfl (fun w => (zt w).trans (by rw [hb27]))) λa A↦?_
   refine qa (hK26 _ _ (wsk fun K32 hK32 => wp_cond_false (A.ev rfl) ?_))
   refine wp_exit (hK21 _ _ (wsk fun K33 hK33 => wrl (sdm A λa A↦?_)))
   have hx38 : (zm p.reverse i).length = p.length := by simp [ku]
   refine qg A rfl rfl rfl (qb rfl rfl (fun w => by kernel_rfl)) ((by have h9 := kj (w := w23) (l := zm p.reverse i) (ui (bs := zm p.reverse i) M 0 rfl).1 (ca := p.length) (by omega) (by omega); rw [hx38] at h9; exact h9)) ?_
   rintro _ w39 ⟨g34, g35, g36, rfl, hM37⟩
   replace M : Mg w w39 (.row 77 1 (.slice (some ⟨g34, 0, none⟩) ((words (leN (zm p.reverse i))).length) ((words (leN (zm p.reverse i))).length)) ((words (leN (zm p.reverse i))).length) ((uC (words (leN (zm p.reverse i))))) :: .row 77 1 (.slice (some ⟨g35, 0, none⟩) 1 2) 1 ([.int .u32 1]) :: .row 77 1 (.slice (some ⟨g36, 0, none⟩) 1 2) 1 ([.int .u32 1]) :: .row BY 1 (.slice (some ⟨g7, 0, none⟩) p.length p.length) p.length ((Lib.byteCells (zm p.reverse i))) :: .obj g4 (.cells #[.bool false, .slice none 0 0, .slice none 0 0, .bool false, .slice none 0 0, .slice none 0 0] 26) :: .obj g2 (.cells #[.int .i64 (((p.length : Nat) : Int)), .bool true, .bool true] 65) :: []) := (M.both hM37 (qp (by simp) (qp (by simp) (qp (by simp) (zb zd)))) (qp (by simp) (qp (by simp) (qp (by simp) (zb zd)))))
   refine ⟨_, rfl, ?_⟩
   intro a A
   have hN9 : Nm _ (Q6.whole false (leN (zm p.reverse i))) (some ⟨g34, 0, none⟩) (words (leN (zm p.reverse i))).length (some ⟨g35, 0, none⟩) 2 none 0 (some ⟨g36, 0, none⟩) 2 := ⟨qfc M 0 rfl, yi (x := 1) M 1 rfl (by decide), qje, yi (x := 1) M 2 rfl (by decide)⟩
   have hlt9 : leN (zm p.reverse i) < 256 ^ p.length := by have h9 := qjg (zm p.reverse i); rw [show (zm p.reverse i).length = p.length from by simp [ku]] at h9; exact h9
   refine qg A rfl rfl rfl (qb rfl rfl (fun w => by kernel_rfl)) (qsh hl64 hlt9 hN9) ?_
   rintro _ w43 ⟨o42_1, o42_c1, o42_2, o42_c2, o42_3, o42_c3, o42_4, o42_c4, rfl, hn40, hb41⟩
   replace M := M.call hb41
   refine ⟨_, rfl, ?_⟩
   intro a A
   refine sdm A λa A↦?_
   iterate 2 refine sdo A (qm (vs := [.agg #[.bool true, .slice o42_1 ((words (leN (zm p.reverse i) + 1)).length) o42_c1, .slice o42_2 1 o42_c2, .bool false, .slice o42_3 0 o42_c3, .slice o42_4 1 o42_c4], .int .i64 0]) rfl rfl) λa A↦?_
   refine qwa (vs := [.bool false, .slice none 0 0, .slice none 0 0, .bool false, .slice none 0 0, .slice none 0 0]) (t := 26) A M rfl rfl rfl pg (ql (z := .agg #[.bool false, .slice none 0 0, .slice none 0 0, .bool false, .slice none 0 0, .slice none 0 0]) (by kernel_rfl) rfl) (by decide) ?_
   intro g44 w45 M hc46 a A
   replace hn40 := xv hn40 hc46
   refine ut (us := [.bool true, .slice o42_1 ((words (leN (zm p.reverse i) + 1)).length) o42_c1, .slice o42_2 1 o42_c2, .bool false, .slice o42_3 0 o42_c3, .slice o42_4 1 o42_c4]) (L' := (.obj g44 (.cells #[.bool true, .slice o42_1 ((words (leN (zm p.reverse i) + 1)).length) o42_c1, .slice o42_2 1 o42_c2, .bool false, .slice o42_3 0 o42_c3, .slice o42_4 1 o42_c4] 26) :: .row 77 1 (.slice (some ⟨g34, 0, none⟩) ((words (leN (zm p.reverse i))).length) ((words (leN (zm p.reverse i))).length)) ((words (leN (zm p.reverse i))).length) ((uC (words (leN (zm p.reverse i))))) :: .row 77 1 (.slice (some ⟨g35, 0, none⟩) 1 2) 1 ([.int .u32 1]) :: .row 77 1 (.slice (some ⟨g36, 0, none⟩) 1 2) 1 ([.int .u32 1]) :: .row BY 1 (.slice (some ⟨g7, 0, none⟩) p.length p.length) p.length ((Lib.byteCells (zm p.reverse i))) :: .obj g4 (.cells #[.bool false, .slice none 0 0, .slice none 0 0, .bool false, .slice none 0 0, .slice none 0 0] 26) :: .obj g2 (.cells #[.int .i64 (((p.length : Nat) : Int)), .bool true, .bool true] 65) :: [])) A M rfl rfl (xa rfl rfl rfl (by kernel_rfl) M 0 rfl rfl rfl) 0 rfl rfl rfl rfl rfl rfl ?_
   intro w47 M hc48
   replace hn40 := xv hn40 hc48
   refine sda A λa A↦?_
   refine qa (hK33 _ _ (wsk fun K49 hK49 => wrl (sdo A (jh M ByO_isS_26 rfl 0 rfl (cs := [.bool true, .slice o42_1 ((words (leN (zm p.reverse i) + 1)).length) o42_c1, .slice o42_2 1 o42_c2, .bool false, .slice o42_3 0 o42_c3, .slice o42_4 1 o42_c4]) rfl rfl) λa A↦?_)))
   refine ut (us := [.bool true, .slice o42_1 ((words (leN (zm p.reverse i) + 1)).length) o42_c1, .slice o42_2 1 o42_c2, .bool false, .slice o42_3 0 o42_c3, .slice o42_4 1 o42_c4]) (L' := (.obj g44 (.cells #[.bool true, .slice o42_1 ((words (leN (zm p.reverse i) + 1)).length) o42_c1, .slice o42_2 1 o42_c2, .bool false, .slice o42_3 0 o42_c3, .slice o42_4 1 o42_c4] 26) :: .row 77 1 (.slice (some ⟨g34, 0, none⟩) ((words (leN (zm p.reverse i))).length) ((words (leN (zm p.reverse i))).length)) ((words (leN (zm p.reverse i))).length) ((uC (words (leN (zm p.reverse i))))) :: .row 77 1 (.slice (some ⟨g35, 0, none⟩) 1 2) 1 ([.int .u32 1]) :: .row 77 1 (.slice (some ⟨g36, 0, none⟩) 1 2) 1 ([.int .u32 1]) :: .row BY 1 (.slice (some ⟨g7, 0, none⟩) p.length p.length) p.length ((Lib.byteCells (zm p.reverse i))) :: .obj g4 (.cells #[.bool true, .slice o42_1 ((words (leN (zm p.reverse i) + 1)).length) o42_c1, .slice o42_2 1 o42_c2, .bool false, .slice o42_3 0 o42_c3, .slice o42_4 1 o42_c4] 26) :: .obj g2 (.cells #[.int .i64 (((p.length : Nat) : Int)), .bool true, .bool true] 65) :: [])) A M rfl rfl (xa rfl rfl rfl (by kernel_rfl) M 5 rfl rfl rfl) 5 rfl rfl rfl rfl rfl rfl ?_
   intro w50 M hc51
   replace hn40 := xv hn40 hc51
   refine qa (hK49 _ _ (wp_ret (hret _ _ (en1 A rfl (ki M ByO_isS_26 rfl 5 rfl (cs := [.bool true, .slice o42_1 ((words (leN (zm p.reverse i) + 1)).length) o42_c1, .slice o42_2 1 o42_c2, .bool false, .slice o42_3 0 o42_c3, .slice o42_4 1 o42_c4]) rfl rfl) ?_))))
   have hi8 : i = p.length := by omega
   subst hi8
   have e9 : ka true true p = Q6.whole true (leN (zm p.reverse p.length) + 1) := by
    unfold ka
    rw [if_pos ⟨rfl, (show 128 ≤ ((p.reverse).getD (p.length - 1) 0).toNat from by omega)⟩]
    have h8 := zac p.reverse
    rw [← zaa, show (p.reverse).length = p.length from by simp] at h8
    rw [(show qbb true p = p.reverse from rfl), show 256 ^ p.length - leN p.reverse = leN (zm p.reverse p.length) + 1 from by omega]
   rw [e9]
   exact ⟨_, _, _, _, _, _, _, _, rfl, hn40, M.bel⟩
theorem qgh {w : World} {sp : Option Addr} {cp : Nat} {p : List UInt8} (hp : Rb w sp p) (hl1 : 1 ≤ p.length) (hl64 : p.length ≤ 64) : Calls Tryz.prog 29 #[.agg #[.int .i64 ((p.length : Nat) : Int), .bool false, .bool false], .slice sp p.length cp] w (AnsV w (ka false false p)) := by
 have M : Mg w w ([]) := Mg.start w
 refine qy (l := [(0, .agg #[.int .i64 (((p.length : Nat) : Int)), .bool false, .bool false]), (1, .slice sp p.length cp)]) Tryz.func29 rfl Tryz.ntmps29 rfl rfl ?_
 intro Q hret hnorm hP a A
 refine wsk fun K1 hK1 => wrl (xm (vs := [.int .i64 (((p.length : Nat) : Int)), .bool false, .bool false]) (t := 65) A M rfl rfl rfl pg (qw rfl rfl) (by decide) ?_)
 intro g2 w3 M a A
 refine xm (vs := [.bool false, .slice none 0 0, .slice none 0 0, .bool false, .slice none 0 0, .slice none 0 0]) (t := 26) A M rfl rfl rfl pg (ql (z := .agg #[.bool false, .slice none 0 0, .slice none 0 0, .bool false, .slice none 0 0, .slice none 0 0]) (by kernel_rfl) rfl) (by decide) ?_
 intro g4 w5 M a A
 refine qa (hK1 _ _ (wsk fun K6 hK6 => wrl (sdo A (jh M ByO_isS_65 rfl 1 rfl (cs := [.int .i64 (((p.length : Nat) : Int)), .bool false, .bool false]) rfl rfl) λa A↦?_)))
 refine sdm A λa A↦?_
 refine qg A rfl rfl rfl (qb rfl rfl (fun w => by kernel_rfl)) (yh (hp.below M.bel) (by omega)) ?_
 rintro _ w9 ⟨g7, rfl, hM8⟩
 replace M : Mg w w9 (.row BY 1 (.slice (some ⟨g7, 0, none⟩) p.length p.length) p.length ((Lib.byteCells p)) :: .obj g4 (.cells #[.bool false, .slice none 0 0, .slice none 0 0, .bool false, .slice none 0 0, .slice none 0 0] 26) :: .obj g2 (.cells #[.int .i64 (((p.length : Nat) : Int)), .bool false, .bool false] 65) :: []) := (M.both hM8 (qp (by simp) (qp (by simp) (zb zd))) (qp (by simp) (zb zd)))
 refine ⟨_, rfl, ?_⟩
 intro a A
 refine sda A λa A↦?_
 refine qa (hK6 _ _ (wsk fun K10 hK10 => wsk fun K11 hK11 => wrl (sdo (v := .pointer (some ⟨g2, 2, none⟩)) A (qf ByO_fld_65_2 rfl rfl) λa A↦?_)))
 refine sdo A (zq M ByO_is1_4 rfl 2 rfl rfl) λa A↦?_
 refine sdo (v := .bool true) A (zk rfl zv) λa A↦?_
 refine sdm A λa A↦?_
 iterate 7 refine ze A rfl rfl rfl λa A↦?_
 refine sdk (v := .bool true) A λa A↦?_
 refine qa (hK11 _ _ (wp_cond_true (A.ev rfl) ?_))
 refine wsk fun K12 hK12 => wrl (sdm A λa A↦?_)
 have hx17 : (p).length = p.length := by simp [ku]
 refine qg A rfl rfl rfl (qb rfl rfl (fun w => by kernel_rfl)) (kj (l := p) (ui (bs := p) M 0 rfl).1 (by omega) (by omega)) ?_
 rintro _ w18 ⟨g13, g14, g15, rfl, hM16⟩
 replace M : Mg w w18 (.row 77 1 (.slice (some ⟨g13, 0, none⟩) ((words (leN p)).length) ((words (leN p)).length)) ((words (leN p)).length) ((uC (words (leN p)))) :: .row 77 1 (.slice (some ⟨g14, 0, none⟩) 1 2) 1 ([.int .u32 1]) :: .row 77 1 (.slice (some ⟨g15, 0, none⟩) 1 2) 1 ([.int .u32 1]) :: .row BY 1 (.slice (some ⟨g7, 0, none⟩) p.length p.length) p.length ((Lib.byteCells p)) :: .obj g4 (.cells #[.bool false, .slice none 0 0, .slice none 0 0, .bool false, .slice none 0 0, .slice none 0 0] 26) :: .obj g2 (.cells #[.int .i64 (((p.length : Nat) : Int)), .bool false, .bool false] 65) :: []) := (M.both hM16 (qp (by simp) (qp (by simp) (qp (by simp) (zb zd)))) (qp (by simp) (qp (by simp) (qp (by simp) (zb zd)))))
 refine ⟨_, rfl, ?_⟩
 intro a A
 refine vk (us := [.bool false, .slice (some ⟨g13, 0, none⟩) ((words (leN p)).length) ((words (leN p)).length), .slice (some ⟨g14, 0, none⟩) 1 2, .bool false, .slice none 0 0, .slice (some ⟨g15, 0, none⟩) 1 2]) (L' := (.row 77 1 (.slice (some ⟨g13, 0, none⟩) ((words (leN p)).length) ((words (leN p)).length)) ((words (leN p)).length) ((uC (words (leN p)))) :: .row 77 1 (.slice (some ⟨g14, 0, none⟩) 1 2) 1 ([.int .u32 1]) :: .row 77 1 (.slice (some ⟨g15, 0, none⟩) 1 2) 1 ([.int .u32 1]) :: .row BY 1 (.slice (some ⟨g7, 0, none⟩) p.length p.length) p.length ((Lib.byteCells p)) :: .obj g4 (.cells #[.bool false, .slice (some ⟨g13, 0, none⟩) ((words (leN p)).length) ((words (leN p)).length), .slice (some ⟨g14, 0, none⟩) 1 2, .bool false, .slice none 0 0, .slice (some ⟨g15, 0, none⟩) 1 2] 26) :: .obj g2 (.cells #[.int .i64 (((p.length : Nat) : Int)), .bool false, .bool false] 65) :: [])) A M rfl rfl (xa rfl rfl rfl (by kernel_rfl) M 4 rfl rfl rfl) 4 rfl rfl rfl ?_
 intro w19 M
 refine qa (hK12 _ _ (wp_ret (hret _ _ (en1 A rfl (ki M ByO_isS_26 rfl 4 rfl (cs := [.bool false, .slice (some ⟨g13, 0, none⟩) ((words (leN p)).length) ((words (leN p)).length), .slice (some ⟨g14, 0, none⟩) 1 2, .bool false, .slice none 0 0, .slice (some ⟨g15, 0, none⟩) 1 2]) rfl rfl) ?_))))
 have e9 : ka false false p = Q6.whole false (leN p) := by unfold ka; rw [if_neg (fun h => (by cases h.1))]; rfl
 rw [e9]
 exact ⟨_, _, _, _, _, _, _, _, rfl, ⟨qfc M 0 rfl, yi (x := 1) M 1 rfl (by decide), qje, yi (x := 1) M 2 rfl (by decide)⟩, M.bel⟩
theorem ue {w : World} {sp : Option Addr} {cp : Nat} {p : List UInt8} (hp : Rb w sp p) (hl1 : 1 ≤ p.length) (hl64 : p.length ≤ 64) : Calls Tryz.prog 29 #[.agg #[.int .i64 ((p.length : Nat) : Int), .bool false, .bool true], .slice sp p.length cp] w (AnsV w (ka false true p)) := by
 have M : Mg w w ([]) := Mg.start w
 refine qy (l := [(0, .agg #[.int .i64 (((p.length : Nat) : Int)), .bool false, .bool true]), (1, .slice sp p.length cp)]) Tryz.func29 rfl Tryz.ntmps29 rfl rfl ?_
 intro Q hret hnorm hP a A
 refine wsk fun K1 hK1 => wrl (xm (vs := [.int .i64 (((p.length : Nat) : Int)), .bool false, .bool true]) (t := 65) A M rfl rfl rfl pg (qw rfl rfl) (by decide) ?_)
 intro g2 w3 M a A
 refine xm (vs := [.bool false, .slice none 0 0, .slice none 0 0, .bool false, .slice none 0 0, .slice none 0 0]) (t := 26) A M rfl rfl rfl pg (ql (z := .agg #[.bool false, .slice none 0 0, .slice none 0 0, .bool false, .slice none 0 0, .slice none 0 0]) (by kernel_rfl) rfl) (by decide) ?_
 intro g4 w5 M a A
 refine qa (hK1 _ _ (wsk fun K6 hK6 => wrl (sdo A (jh M ByO_isS_65 rfl 1 rfl (cs := [.int .i64 (((p.length : Nat) : Int)), .bool false, .bool true]) rfl rfl) λa A↦?_)))
 refine sdm A λa A↦?_
 refine qg A rfl rfl rfl (qb rfl rfl (fun w => by kernel_rfl)) (yh (hp.below M.bel) (by omega)) ?_
 rintro _ w9 ⟨g7, rfl, hM8⟩
 replace M : Mg w w9 (.row BY 1 (.slice (some ⟨g7, 0, none⟩) p.length p.length) p.length ((Lib.byteCells p)) :: .obj g4 (.cells #[.bool false, .slice none 0 0, .slice none 0 0, .bool false, .slice none 0 0, .slice none 0 0] 26) :: .obj g2 (.cells #[.int .i64 (((p.length : Nat) : Int)), .bool false, .bool true] 65) :: []) := (M.both hM8 (qp (by simp) (qp (by simp) (zb zd))) (qp (by simp) (zb zd)))
 refine ⟨_, rfl, ?_⟩
 intro a A
 refine sda A λa A↦?_
 refine qa (hK6 _ _ (wsk fun K10 hK10 => wsk fun K11 hK11 => wrl (sdo (v := .pointer (some ⟨g2, 2, none⟩)) A (qf ByO_fld_65_2 rfl rfl) λa A↦?_)))
 refine sdo A (zq M ByO_is1_4 rfl 2 rfl rfl) λa A↦?_
 refine sdo (v := .bool false) A (zk rfl zv) λa A↦?_
 iterate 2 refine sdm A λa A↦?_
 refine sdo (v := .pointer (some ⟨g2, 0, none⟩)) A (qf ByO_fld_65_0 rfl rfl) λa A↦?_
 refine sdo A (zq M ByO_is1_3 rfl 2 rfl rfl) λa A↦?_
 refine sdo (v := .int .i64 (((p.length - 1 : Nat) : Int))) A (qe rfl rfl (ar_sub ((in_i64 (by omega) (by omega)).trans (by omega)))) λa A↦?_
 refine sdo (v := .pointer (some ⟨g7, (p.length - 1) * 1, none⟩)) A (jg Tryz.underlying31 (by kernel_rfl) rfl rfl rfl (show p.length - 1 < p.length by omega)) λa A↦?_
 refine sdo (v := .int .u8 ((((p.getD (p.length - 1) 0).toNat : Nat) : Int))) A (yk M 0 rfl (kk (l := p) (i := p.length - 1) (by omega)) ByO_is1_5 rfl) λa A↦?_
 rcases tf (decide ((((p.getD (p.length - 1) 0).toNat : Nat) : Int) < 128)) with hb12 | hb12
 ·
  have hb12' := of_decide_eq_true hb12
  refine sdo (v := .bool true) A (qe rfl rfl (fun w => (zt w).trans (by rw [hb12]))) λa A↦?_
  refine sdk (v := .bool true) A λa A↦?_
  refine qa (hK11 _ _ (wp_cond_true (A.ev rfl) ?_))
  refine wsk fun K13 hK13 => wrl (sdm A λa A↦?_)
  have hx18 : (p).length = p.length := by simp [ku]
  refine qg A rfl rfl rfl (qb rfl rfl (fun w => by kernel_rfl)) (kj (l := p) (ui (bs := p) M 0 rfl).1 (by omega) (by omega)) ?_
  rintro _ w19 ⟨g14, g15, g16, rfl, hM17⟩
  replace M : Mg w w19 (.row 77 1 (.slice (some ⟨g14, 0, none⟩) ((words (leN p)).length) ((words (leN p)).length)) ((words (leN p)).length) ((uC (words (leN p)))) :: .row 77 1 (.slice (some ⟨g15, 0, none⟩) 1 2) 1 ([.int .u32 1]) :: .row 77 1 (.slice (some ⟨g16, 0, none⟩) 1 2) 1 ([.int .u32 1]) :: .row BY 1 (.slice (some ⟨g7, 0, none⟩) p.length p.length) p.length ((Lib.byteCells p)) :: .obj g4 (.cells #[.bool false, .slice none 0 0, .slice none 0 0, .bool false, .slice none 0 0, .slice none 0 0] 26) :: .obj g2 (.cells #[.int .i64 (((p.length : Nat) : Int)), .bool false, .bool true] 65) :: []) := (M.both hM17 (qp (by simp) (qp (by simp) (qp (by simp) (zb zd)))) (qp (by simp) (qp (by simp) (qp (by simp) (zb zd)))))
  refine ⟨_, rfl, ?_⟩
  intro a A
  refine vk (us := [.bool false, .slice (some ⟨g14, 0, none⟩) ((words (leN p)).length) ((words (leN p)).length), .slice (some ⟨g15, 0, none⟩) 1 2, .bool false, .slice none 0 0, .slice (some ⟨g16, 0, none⟩) 1 2]) (L' := (.row 77 1 (.slice (some ⟨g14, 0, none⟩) ((words (leN p)).length) ((words (leN p)).length)) ((words (leN p)).length) ((uC (words (leN p)))) :: .row 77 1 (.slice (some ⟨g15, 0, none⟩) 1 2) 1 ([.int .u32 1]) :: .row 77 1 (.slice (some ⟨g16, 0, none⟩) 1 2) 1 ([.int .u32 1]) :: .row BY 1 (.slice (some ⟨g7, 0, none⟩) p.length p.length) p.length ((Lib.byteCells p)) :: .obj g4 (.cells #[.bool false, .slice (some ⟨g14, 0, none⟩) ((words (leN p)).length) ((words (leN p)).length), .slice (some ⟨g15, 0, none⟩) 1 2, .bool false, .slice none 0 0, .slice (some ⟨g16, 0, none⟩) 1 2] 26) :: .obj g2 (.cells #[.int .i64 (((p.length : Nat) : Int)), .bool false, .bool true] 65) :: [])) A M rfl rfl (xa rfl rfl rfl (by kernel_rfl) M 4 rfl rfl rfl) 4 rfl rfl rfl ?_
  intro w20 M
  refine qa (hK13 _ _ (wp_ret (hret _ _ (en1 A rfl (ki M ByO_isS_26 rfl 4 rfl (cs := [.bool false, .slice (some ⟨g14, 0, none⟩) ((words (leN p)).length) ((words (leN p)).length), .slice (some ⟨g15, 0, none⟩) 1 2, .bool false, .slice none 0 0, .slice (some ⟨g16, 0, none⟩) 1 2]) rfl rfl) ?_))))
  have e9 : ka false true p = Q6.whole false (leN p) := by unfold ka; rw [if_neg (fun h => (by have h9 : 128 ≤ ((p).getD (p.length - 1) 0).toNat := h.2; omega))]; rfl
  rw [e9]
  exact ⟨_, _, _, _, _, _, _, _, rfl, ⟨qfc M 0 rfl, yi (x := 1) M 1 rfl (by decide), qje, yi (x := 1) M 2 rfl (by decide)⟩, M.bel⟩
 ·
  have hb12' := of_decide_eq_false hb12
  refine sdo (v := .bool false) A (qe rfl rfl (fun w => (zt w).trans (by rw [hb12]))) λa A↦?_
  refine sdk (v := .bool false) A λa A↦?_
  refine qa (hK11 _ _ (wp_cond_false (A.ev rfl) ?_))
  refine wp_skip (hK10 _ _ (wsk fun K21 hK21 => wsk fun K22 hK22 => wrl (sdm A λa A↦?_)))
  refine sdo A (zg Tryz.underlying31 rfl) λa A↦?_
  refine sdm A λa A↦?_
  refine qa (hK22 _ _ (wp_block (js (fun m_ a w1 => ∃ (i : Nat), m_ = p.length - i ∧ (i ≤ p.length) ∧ Sl a 47 [(0, .agg #[.int .i64 (((p.length : Nat) : Int)), .bool false, .bool true]), (1, .slice sp p.length cp), (2, .pointer (some ⟨g2, 0, none⟩)), (4, .pointer (some ⟨g4, 0, none⟩)), (5, .slice (some ⟨g7, 0, none⟩) p.length p.length), (9, .agg #[.int .i64 (((p.length : Nat) : Int)), .bool false, .bool true]), (10, .slice sp p.length cp), (11, .slice (some ⟨g7, 0, none⟩) p.length p.length), (12, .pointer (some ⟨g2, 2, none⟩)), (13, .bool true), (14, .bool false), (15, .bool false), (16, .slice (some ⟨g7, 0, none⟩) p.length p.length), (17, .pointer (some ⟨g2, 0, none⟩)), (18, .int .i64 (((p.length : Nat) : Int))), (19, .int .i64 (((p.length - 1 : Nat) : Int))), (20, .pointer (some ⟨g7, (p.length - 1) * 1, none⟩)), (21, .int .u8 ((((p.getD (p.length - 1) 0).toNat : Nat) : Int))), (22, .bool false), (23, .bool false), (26, .slice (some ⟨g7, 0, none⟩) p.length p.length), (27, .int .i64 (((p.length : Nat) : Int))), (28, .int .i64 (((i : Nat) : Int)))] ∧ Mg w w1 (.row BY 1 (.slice (some ⟨g7, 0, none⟩) p.length p.length) p.length ((Lib.byteCells (zm p i))) :: .obj g4 (.cells #[.bool false, .slice none 0 0, .slice none 0 0, .bool false, .slice none 0 0, .slice none 0 0] 26) :: .obj g2 (.cells #[.int .i64 (((p.length : Nat) : Int)), .bool false, .bool true] 65) :: [])) _ ⟨0, rfl, Nat.zero_le _, A.keep _ ⟨rfl, rfl, rfl, rfl, rfl, rfl, rfl, rfl, rfl, rfl, rfl, rfl, rfl, rfl, rfl, rfl, rfl, rfl, rfl, rfl, rfl, rfl, rfl, trivial⟩, M⟩ ?_)))
  clear M A
  rintro m_ a w23 ⟨i, rfl, hinv25, A, M⟩ K24 hK24
  have hi9 := hinv25
  refine wsk fun K26 hK26 => wrl ?_
  rcases tf (decide (((i : Nat) : Int) < ((p.length : Nat) : Int))) with hb27 | hb27
  ·
   have hb27' := of_decide_eq_true hb27
   refine sdo (v := .bool true) A (qe rfl rfl (fun w => (zt w).trans (by rw [hb27]))) λa A↦?_
   refine qa (hK26 _ _ (wsk fun K28 hK28 => wp_cond_true (A.ev rfl) ?_))
   refine wp_skip (hK28 _ _ (wsk fun K29 hK29 => wp_block (wsk fun K30 hK30 => wrl (sdm A λa A↦?_))))
   refine sda A λa A↦?_
   refine qa (hK30 _ _ (wrl ?_))
   iterate 4 refine sdm A λa A↦?_
   refine sdo (v := .pointer (some ⟨g7, (i) * 1, none⟩)) A (jg Tryz.underlying31 (by kernel_rfl) rfl rfl rfl (show i < p.length by omega)) λa A↦?_
   refine sdo (v := .int .u8 ((((p.getD (i) 0).toNat : Nat) : Int))) A (yk M 0 rfl (zab (l := p) (i := i) (by omega)) ByO_is1_5 rfl) λa A↦?_
   have hX8 : (p.getD i 0).toNat < 256 := UInt8.toNat_lt _
   refine sdo (v := .int .u8 (((255 - (p.getD i 0).toNat : Nat) : Int))) A (zk rfl (zjf hX8)) λa A↦?_
   refine sdo (v := .pointer (some ⟨g7, (i) * 1, none⟩)) A (jg Tryz.underlying31 (by kernel_rfl) rfl rfl rfl (show i < p.length by omega)) λa A↦?_
   refine qzh (cs := [.int .u8 (((255 - (p.getD i 0).toNat : Nat) : Int))]) (L' := (.row BY 1 (.slice (some ⟨g7, 0, none⟩) p.length p.length) p.length ((over (Lib.byteCells (zm p i)) ((i) * 1) [.int .u8 (((255 - (p.getD i 0).toNat : Nat) : Int))])) :: .obj g4 (.cells #[.bool false, .slice none 0 0, .slice none 0 0, .bool false, .slice none 0 0, .slice none 0 0] 26) :: .obj g2 (.cells #[.int .i64 (((p.length : Nat) : Int)), .bool false, .bool true] 65) :: [])) (us := []) A M rfl rfl (kt rfl rfl rfl (by kernel_rfl) M 0 rfl (show (i) * 1 + 1 ≤ p.length * 1 by omega) rfl) 0 rfl rfl ?_
   intro w31 M
   replace M : Mg w w31 (.row BY 1 (.slice (some ⟨g7, 0, none⟩) p.length p.length) p.length ((Lib.byteCells (zm p (i + 1)))) :: .obj g4 (.cells #[.bool false, .slice none 0 0, .slice none 0 0, .bool false, .slice none 0 0, .slice none 0 0] 26) :: .obj g2 (.cells #[.int .i64 (((p.length : Nat) : Int)), .bool false, .bool true] 65) :: []) := by
    have h9 := M
    rw [qsg (l := p) (by omega)] at h9
    exact h9
   refine qa (hK29 _ _ (wrl (sdo (v := .int .i64 (((i + 1 : Nat) : Int))) A (qe rfl rfl (ar_add ((in_i64 (by omega) (by omega)).trans (by omega)))) λa A↦?_)))
   refine sdm A λa A↦?_
   refine qa ?_
   refine hK24 _ _ _ (by omega) ⟨i + 1, rfl, (by omega), A.keep _ ⟨rfl, rfl, rfl, rfl, rfl, rfl, rfl, rfl, rfl, rfl, rfl, rfl, rfl, rfl, rfl, rfl, rfl, rfl, rfl, rfl, rfl, rfl, rfl, trivial⟩, M⟩
  ·
   have hb27' := of_decide_eq_false hb27
   refine sdo (v := .bool false) A (qe rfl rfl (fun w => (zt w).trans (by rw [hb27]))) λa A↦?_
   refine qa (hK26 _ _ (wsk fun K32 hK32 => wp_cond_false (A.ev rfl) ?_))
   refine wp_exit (hK21 _ _ (wsk fun K33 hK33 => wrl (sdm A λa A↦?_)))
   have hx38 : (zm p i).length = p.length := by simp [ku]
   refine qg A rfl rfl rfl (qb rfl rfl (fun w => by kernel_rfl)) ((by have h9 := kj (w := w23) (l := zm p i) (ui (bs := zm p i) M 0 rfl).1 (ca := p.length) (by omega) (by omega); rw [hx38] at h9; exact h9)) ?_
   rintro _ w39 ⟨g34, g35, g36, rfl, hM37⟩
   replace M : Mg w w39 (.row 77 1 (.slice (some ⟨g34, 0, none⟩) ((words (leN (zm p i))).length) ((words (leN (zm p i))).length)) ((words (leN (zm p i))).length) ((uC (words (leN (zm p i))))) :: .row 77 1 (.slice (some ⟨g35, 0, none⟩) 1 2) 1 ([.int .u32 1]) :: .row 77 1 (.slice (some ⟨g36, 0, none⟩) 1 2) 1 ([.int .u32 1]) :: .row BY 1 (.slice (some ⟨g7, 0, none⟩) p.length p.length) p.length ((Lib.byteCells (zm p i))) :: .obj g4 (.cells #[.bool false, .slice none 0 0, .slice none 0 0, .bool false, .slice none 0 0, .slice none 0 0] 26) :: .obj g2 (.cells #[.int .i64 (((p.length : Nat) : Int)), .bool false, .bool true] 65) :: []) := (M.both hM37 (qp (by simp) (qp (by simp) (qp (by simp) (zb zd)))) (qp (by simp) (qp (by simp) (qp (by simp) (zb zd)))))
   refine ⟨_, rfl, ?_⟩
   intro a A
   have hN9 : Nm _ (Q6.whole false (leN (zm p i))) (some ⟨g34, 0, none⟩) (words (leN (zm p i))).length (some ⟨g35, 0, none⟩) 2 none 0 (some ⟨g36, 0, none⟩) 2 := ⟨qfc M 0 rfl, yi (x := 1) M 1 rfl (by decide), qje, yi (x := 1) M 2 rfl (by decide)⟩
   have hlt9 : leN (zm p i) < 256 ^ p.length := by have h9 := qjg (zm p i); rw [show (zm p i).length = p.length from by simp [ku]] at h9; exact h9
   refine qg A rfl rfl rfl (qb rfl rfl (fun w => by kernel_rfl)) (qsh hl64 hlt9 hN9) ?_
   rintro _ w43 ⟨o42_1, o42_c1, o42_2, o42_c2, o42_3, o42_c3, o42_4, o42_c4, rfl, hn40, hb41⟩
   replace M := M.call hb41
   refine ⟨_, rfl, ?_⟩
   intro a A
   refine sdm A λa A↦?_
   iterate 2 refine sdo A (qm (vs := [.agg #[.bool true, .slice o42_1 ((words (leN (zm p i) + 1)).length) o42_c1, .slice o42_2 1 o42_c2, .bool false, .slice o42_3 0 o42_c3, .slice o42_4 1 o42_c4], .int .i64 0]) rfl rfl) λa A↦?_
   refine qwa (vs := [.bool false, .slice none 0 0, .slice none 0 0, .bool false, .slice none 0 0, .slice none 0 0]) (t := 26) A M rfl rfl rfl pg (ql (z := .agg #[.bool false, .slice none 0 0, .slice none 0 0, .bool false, .slice none 0 0, .slice none 0 0]) (by kernel_rfl) rfl) (by decide) ?_
   intro g44 w45 M hc46 a A
   replace hn40 := xv hn40 hc46
   refine ut (us := [.bool true, .slice o42_1 ((words (leN (zm p i) + 1)).length) o42_c1, .slice o42_2 1 o42_c2, .bool false, .slice o42_3 0 o42_c3, .slice o42_4 1 o42_c4]) (L' := (.obj g44 (.cells #[.bool true, .slice o42_1 ((words (leN (zm p i) + 1)).length) o42_c1, .slice o42_2 1 o42_c2, .bool false, .slice o42_3 0 o42_c3, .slice o42_4 1 o42_c4] 26) :: .row 77 1 (.slice (some ⟨g34, 0, none⟩) ((words (leN (zm p i))).length) ((words (leN (zm p i))).length)) ((words (leN (zm p i))).length) ((uC (words (leN (zm p i))))) :: .row 77 1 (.slice (some ⟨g35, 0, none⟩) 1 2) 1 ([.int .u32 1]) :: .row 77 1 (.slice (some ⟨g36, 0, none⟩) 1 2) 1 ([.int .u32 1]) :: .row BY 1 (.slice (some ⟨g7, 0, none⟩) p.length p.length) p.length ((Lib.byteCells (zm p i))) :: .obj g4 (.cells #[.bool false, .slice none 0 0, .slice none 0 0, .bool false, .slice none 0 0, .slice none 0 0] 26) :: .obj g2 (.cells #[.int .i64 (((p.length : Nat) : Int)), .bool false, .bool true] 65) :: [])) A M rfl rfl (xa rfl rfl rfl (by kernel_rfl) M 0 rfl rfl rfl) 0 rfl rfl rfl rfl rfl rfl ?_
   intro w47 M hc48
   replace hn40 := xv hn40 hc48
   refine sda A λa A↦?_
   refine qa (hK33 _ _ (wsk fun K49 hK49 => wrl (sdo A (jh M ByO_isS_26 rfl 0 rfl (cs := [.bool true, .slice o42_1 ((words (leN (zm p i) + 1)).length) o42_c1, .slice o42_2 1 o42_c2, .bool false, .slice o42_3 0 o42_c3, .slice o42_4 1 o42_c4]) rfl rfl) λa A↦?_)))
   refine ut (us := [.bool true, .slice o42_1 ((words (leN (zm p i) + 1)).length) o42_c1, .slice o42_2 1 o42_c2, .bool false, .slice o42_3 0 o42_c3, .slice o42_4 1 o42_c4]) (L' := (.obj g44 (.cells #[.bool true, .slice o42_1 ((words (leN (zm p i) + 1)).length) o42_c1, .slice o42_2 1 o42_c2, .bool false, .slice o42_3 0 o42_c3, .slice o42_4 1 o42_c4] 26) :: .row 77 1 (.slice (some ⟨g34, 0, none⟩) ((words (leN (zm p i))).length) ((words (leN (zm p i))).length)) ((words (leN (zm p i))).length) ((uC (words (leN (zm p i))))) :: .row 77 1 (.slice (some ⟨g35, 0, none⟩) 1 2) 1 ([.int .u32 1]) :: .row 77 1 (.slice (some ⟨g36, 0, none⟩) 1 2) 1 ([.int .u32 1]) :: .row BY 1 (.slice (some ⟨g7, 0, none⟩) p.length p.length) p.length ((Lib.byteCells (zm p i))) :: .obj g4 (.cells #[.bool true, .slice o42_1 ((words (leN (zm p i) + 1)).length) o42_c1, .slice o42_2 1 o42_c2, .bool false, .slice o42_3 0 o42_c3, .slice o42_4 1 o42_c4] 26) :: .obj g2 (.cells #[.int .i64 (((p.length : Nat) : Int)), .bool false, .bool true] 65) :: [])) A M rfl rfl (xa rfl rfl rfl (by kernel_rfl) M 5 rfl rfl rfl) 5 rfl rfl rfl rfl rfl rfl ?_
   intro w50 M hc51
   replace hn40 := xv hn40 hc51
   refine qa (hK49 _ _ (wp_ret (hret _ _ (en1 A rfl (ki M ByO_isS_26 rfl 5 rfl (cs := [.bool true, .slice o42_1 ((words (leN (zm p i) + 1)).length) o42_c1, .slice o42_2 1 o42_c2, .bool false, .slice o42_3 0 o42_c3, .slice o42_4 1 o42_c4]) rfl rfl) ?_))))
   have hi8 : i = p.length := by omega
   subst hi8
   have e9 : ka false true p = Q6.whole true (leN (zm p p.length) + 1) := by
    unfold ka
    rw [if_pos ⟨rfl, (show 128 ≤ ((p).getD (p.length - 1) 0).toNat from by omega)⟩]
    have h8 := zac p
    rw [← zaa, show (p).length = p.length from by simp] at h8
    rw [(show qbb false p = p from rfl), show 256 ^ p.length - leN p = leN (zm p p.length) + 1 from by omega]
   rw [e9]
   exact ⟨_, _, _, _, _, _, _, _, rfl, hn40, M.bel⟩
theorem uz {w : World} {sp : Option Addr} {cp : Nat} {p : List UInt8} (hp : Rb w sp p) (hl1 : 1 ≤ p.length) (hl64 : p.length ≤ 64) (bg sg : Bool) : Calls Tryz.prog 29 #[.agg #[.int .i64 ((p.length : Nat) : Int), .bool bg, .bool sg], .slice sp p.length cp] w (AnsV w (ka bg sg p)) := by
 cases bg <;> cases sg
 ·
  exact qgh hp hl1 hl64
 ·
  exact ue hp hl1 hl64
 ·
  exact qid hp hl1 hl64
 ·
  exact uu hp hl1 hl64
end Go.Proofs.YtjkpfnghiooblaaGreatDoor.G
namespace Go.Proofs.YtjkpfnghiooblaaGreatDoor
open Go.RowKit
set_option linter.unusedVariables false
set_option linter.unusedSimpArgs false

section
variable {P : Program} {w0 w : World} {l : List (Nat × Value)} {dst : Option Tmp} {ty : TypeId} {pos : String} {after : Array Edge} {guard : Option (Nat × Bool)} {v : Value} {L : List (Nat × List Value)} {R : List (Option Addr × List Nat)} {O : List (Option Addr × Nat × List Nat)}
theorem zug {t e : TypeId} (ht : P.underlying t = some (.slice e)) (he : (P.info? e).map (·.size) = some 1) {x y1 y2 : Operand} {so : Option Addr} {n cap lo hi q : Nat} {z1 z2 : Int} (hx : ev l x = some (.slice so n cap)) (hy1 : ev l y1 = some (.int .i64 z1)) (hy2 : ev l y2 = some (.int .i64 z2)) (hz1 : z1 = ((lo : Nat) : Int)) (hz2 : z2 = ((hi : Nat) : Int)) (h1 : lo ≤ hi) (h2 : hi ≤ cap) (hq : hi - lo = q) : Does P l ⟨dst, .slice t x (some y1) (some y2) none, ty, pos, after, guard⟩ w (.slice (G.qib so cap lo) q (cap - lo)) w := fun ρ h => by
  subst hz1 hz2 hq
  obtain ⟨i, hii, hs⟩ := jq he
  have k2 : (sizeOf e).run P w = .ok 1 w := by simp [sizeOf, typeInfo, hii, hs]
  have g1 : (0 : Int) ≤ (lo : Nat) ∧ ((lo : Nat) : Int) ≤ (hi : Int) := ⟨by omega, by omega⟩
  have g2 : (0 : Int) ≤ (hi : Nat) ∧ ((hi : Nat) : Int) ≤ (cap : Int) := ⟨by omega, by omega⟩
  simp only [execOp, h x _ hx, h y1 _ hy1, h y2 _ hy2, Option.map_some, Option.map_none, Instr.sliceAt, Instr.slice, Instr.sliceBounds, Instr.sliceBound, asIntOf, run_underlying ht, Sem.run_bind, Sem.run_pure, Result.andThen_ok, g1, g2, k2, and_self, if_true, Int.toNat_natCast, Nat.mul_one, G.qib]
end
theorem zjh (n : Nat) : 2 ^ (8 * n) = 256 ^ n := by rw [Nat.pow_mul]
theorem zzh {l : List UInt8} {n : Nat} (hl : l.length = n) (h1 : 1 ≤ n) : bl (G.leN l) = 8 * n ↔ 128 ≤ (l.getD (n - 1) 0).toNat := by
  have hlt : n - 1 < l.length := by omega
  have e : l = l.take (n - 1) ++ [l[n - 1]] := by
    have := List.take_append_drop (n - 1) l
    rw [List.drop_eq_getElem_cons hlt, List.drop_eq_nil_of_le (by omega)] at this
    exact this.symm
  have ed : l.getD (n - 1) 0 = l[n - 1] := by rw [List.getD_eq_getElem?_getD, List.getElem?_eq_getElem hlt]; rfl
  rw [ed]
  have hx : G.leN l = G.leN (l.take (n - 1)) + 256 ^ (n - 1) * l[n - 1].toNat := by
    have h := congrArg G.leN e
    rw [G.qgg] at h
    rw [h, List.length_take, Nat.min_eq_left (by omega)]
    simp [G.leN]
  have ht := G.qjg (l.take (n - 1))
  rw [List.length_take, Nat.min_eq_left (by omega)] at ht
  have hw := G.qjg l
  rw [hl] at hw
  have hb : l[n - 1].toNat < 256 := UInt8.toNat_lt _
  obtain ⟨m, rfl⟩ : ∃ m, n = m + 1 := ⟨n - 1, by omega⟩
  simp only [Nat.add_sub_cancel] at *
  have hp : 2 ^ (8 * (m + 1) - 1) = 128 * 256 ^ m := by
    rw [show 8 * (m + 1) - 1 = 8 * m + 7 from by omega, Nat.pow_add, zjh]
    omega
  constructor
  · intro h
    have hne : G.leN l ≠ 0 := fun k => by rw [k, bl_zero] at h; omega
    have h2 := bl_ge hne
    rw [h, hp] at h2
    apply Classical.byContradiction
    intro hc
    have : l[m].toNat ≤ 127 := by omega
    have h3 := Nat.mul_le_mul_left (256 ^ m) this
    rw [hx] at h2
    omega
  · intro h
    have h3 := Nat.mul_le_mul_left (256 ^ m) h
    have h4 := bl_eq (x := G.leN l) (n := 8 * (m + 1) - 1) (by rw [hp, hx]; omega) (by rw [show 8 * (m + 1) - 1 + 1 = 8 * (m + 1) from by omega, zjh]; exact hw)
    omega
theorem zuh (N q : Nat) : (((List.replicate N (0 : UInt8)).getD q 0).toNat : Nat) = 0 := by
  rw [List.getD_eq_getElem?_getD, List.getElem?_replicate]
  split <;> rfl
theorem zzi (N q : Nat) (h : q < N) : (madeCells (.int .u8 0 : Value).cells N).toList[q]? = some (.int .u8 0) := by
  unfold madeCells
  rw [Array.toList_map, Array.toList_range, List.getElem?_map, List.getElem?_range h]
  show some ((#[(.int .u8 0 : Value)] : Array Value)[q % 1]!) = _
  rw [Nat.mod_one]
  rfl
section
variable {P : Program} {w0 w : World} {l : List (Nat × Value)} {ops : List Oper} {Q : Exit → Act → World → Prop} {a : Act} {n d : Nat} {o : Oper} {S : World → Prop} {md : Region.Mode} {fuel : Nat} {listed : Array Bool} {L : List (Nat × List Value)} {R : List (Option Addr × List Nat)} {O : List (Option Addr × Nat × List Nat)} {dst : Option Tmp} {ty : TypeId} {pos : String} {after : Array Edge} {guard : Option (Nat × Bool)}
theorem zna (hA : Sl a n l) (hS : St w0 w L R []) (i : Nat) (hi : ops[i]? = some o) (hg : zr l ops o = true) (hdst : o.dst = some d) (hd : Nat.blt d n = true) {t : TypeId} {x y : Operand} (ho : o = ⟨dst, .makeSlice t x y, ty, pos, after, guard⟩) (ht : P.underlying t = some (.slice G.BY)) (hinfo : (P.info? G.BY).map (fun i => (i.zero, i.size, i.bytes)) = some (some (.int .u8 0), 1, 1)) (hx : ev l x = some (.int .i64 64)) (hy : ev l y = some (.int .i64 64))
    (hk : ∀ g w', St w0 w' L R [] → G.Rb w' (some ⟨g, 0, none⟩) (List.replicate 64 0) → S w' ∧ ∀ a', Sl a' n ((d, .slice (some ⟨g, 0, none⟩) 64 64) :: l) → wpAnyH P md ops.toArray Q S fuel (listed.setIfInBounds i true) a' w') : wpOp P ops.toArray Q i (fun a' w' => S w' ∧ wpAnyH P md ops.toArray Q S fuel (listed.setIfInBounds i true) a' w') a w := by
  obtain ⟨j, hj, hzz⟩ := Option.map_eq_some_iff.1 hinfo
  simp only [Prod.mk.injEq] at hzz
  obtain ⟨hz, hs, hbb⟩ := hzz
  obtain ⟨w', hr, hown, hgr⟩ := run_make_full (P := P) (w := w) w.heap.size t G.BY j (.int .u8 0) 1 ht hj hz hs .i64 .i64 64 (by rw [hbb]; decide) (by unfold maxLen; decide) (Nat.le_refl _)
  have hbel : Below w.heap.size w w' := ⟨hgr.os, hgr.tape, hgr.output, hgr.size, fun k hk => hgr.block k hk (by simp)⟩
  have hrb : G.Rb w' (some ⟨w.heap.size, 0, none⟩) (List.replicate 64 0) := by
    refine ⟨fun _ => ⟨w.heap.size, 0, rfl, (hown.lt w.heap.size rfl).2, fun q hq => ?_⟩⟩
    rw [List.length_replicate] at hq
    have h9 := hown.cells (g := w.heap.size) rfl q (.int .u8 0) (zzi (64 * 1) q (by omega))
    rw [Addr.add_lit] at h9
    rw [h9, zuh]
    rfl
  have h := hk w.heap.size w' (hS.call hbel) hrb
  refine qgj hA i hi hg hdst hd (v := .slice (some ⟨w.heap.size, 0, none⟩) 64 64) (w' := w') ?_ h.1 h.2
  subst ho
  intro ρ hρ
  simp only [execOp, hρ x _ hx, hρ y _ hy, Sem.run_bind, Result.andThen_ok, Sem.run_pure]
  have hr' : (Instr.makeSlice t (.int .i64 64) (.int .i64 64)).run P w = .ok (.slice (some ⟨w.heap.size, 0, none⟩) 64 64) w' := hr
  simp only [hr', Result.andThen_ok]
end
set_option maxRecDepth 100000
theorem GvB_isS_26 : IsS Tryz.prog 26 6 := ⟨⟨_, Tryz.underlying26⟩, by kernel_rfl⟩
theorem GvB_isS_65 : IsS Tryz.prog 65 3 := ⟨⟨_, Tryz.underlying65⟩, by kernel_rfl⟩

end Go.Proofs.YtjkpfnghiooblaaGreatDoor
namespace Go.Proofs.YtjkpfnghiooblaaGreatDoor.G
open Go.RowKit
set_option linter.unusedVariables false
set_option linter.unusedSimpArgs false

section
variable {P : Program} {w0 w : World} {L : List Ck} {l : List (Nat × Value)} {dst : Option Tmp} {ty : TypeId} {pos : String} {after : Array Edge} {guard : Option (Nat × Bool)} {v : Value}
theorem zji {b o : Nat} (hc : w.cell? ⟨b, o, none⟩ = some v) {t : TypeId} (ht : Is1 P t) {x : Operand} (hx : ev l x = some (.pointer (some ⟨b, o, none⟩))) : Does P l ⟨dst, .load t x, ty, pos, after, guard⟩ w v w := vg hx (kw ht hc)
variable {ops : List Oper} {Q : Exit → Act → World → Prop} {a : Act} {n : Nat} {o : Oper} {rest : List Oper} {d : Nat}
theorem zjj (hA : Sl a n l) (hM : Mg w0 w L) {t e ty : TypeId} {z : Value} {sz by_ : Nat} {dst : Option Tmp} {pos : String} {after : Array Edge} {guard : Option (Nat × Bool)} (ht : P.underlying t = some (.slice e)) (hinfo : (P.info? e).map (fun i => (i.zero, i.size, i.bytes)) = some (some z, sz, by_)) {x y : Operand} {m : Nat} (hx : ev l x = some (.int .i64 ((m : Nat) : Int))) (hy : ev l y = some (.int .i64 ((m : Nat) : Int))) (ho : o = ⟨dst, .makeSlice t x y, ty, pos, after, guard⟩) (hg : zr l ops o = true) (hdst : o.dst = some d) (hd : Nat.blt d n = true) (hb : by_ * m ≤ 281474976710656) (h63 : m ≤ 9223372036854775807) (hnb : e ≠ BY ∨ qbg L)
    (hk : ∀ g w', Mg w0 w' (.row e sz (.slice (some ⟨g, 0, none⟩) m m) m (madeCells z.cells (m * sz)).toList :: L) → Carry w w' → ∀ a', Sl a' n ((d, .slice (some ⟨g, 0, none⟩) m m) :: l) → wpList P ops.toArray Q rest a' w') : wpList P ops.toArray Q (o :: rest) a w := by
  subst ho
  obtain ⟨i, hi, hzz⟩ := Option.map_eq_some_iff.1 hinfo
  simp only [Prod.mk.injEq] at hzz
  obtain ⟨hz, hs, hbb⟩ := hzz
  obtain ⟨w', hr, hown, hgr⟩ := run_make_full (P := P) (w := w) w0.heap.size t e i z sz ht hi hz hs .i64 .i64 m (by rw [hbb]; exact hb) (by unfold maxLen; omega) hM.bel.size
  have hbel : Below w.heap.size w w' := ⟨hgr.os, hgr.tape, hgr.output, hgr.size, fun k hk => hgr.block k hk (by simp)⟩
  refine kv hA hg hdst hd (v := .slice (some ⟨w.heap.size, 0, none⟩) m m) (w' := w') (fun ρ h => ?_) (hk w.heap.size w' (hM.add hbel hown (fun k e => by simp [Ck.at_, Value.ownBlock] at e; omega) (.inr (.inl ⟨_, _, _, _, _, rfl, hnb⟩))) (fun _ _ r => r.below hbel))
  simp only [execOp, h x _ hx, h y _ hy, Sem.run_bind, hr, Result.andThen_ok, Sem.run_pure]
theorem qsi (hA : Sl a n l) (hM : Mg w0 w L) (hg : zr l ops o = true) (hdst : o.dst = none) {g q : Nat} {c u : Value} {e : TypeId} {sz m cap : Nat} {xs : List Value} (he : Sets P l o w (w.setCells g q [c])) (k : Nat) (hk0 : L[k]? = some (.row e sz (.slice (some ⟨g, 0, none⟩) m cap) m xs)) (hu : xs[q]? = some u) (hn : zfh u = true) {L' : List Ck} (hL : L.set k (.row e sz (.slice (some ⟨g, 0, none⟩) m cap) m (over xs q [c])) = L')
    (hk : ∀ w', Mg w0 w' L' → Carry w w' → wpList P ops.toArray Q rest a w') : wpList P ops.toArray Q (o :: rest) a w :=
  uw hA hg hdst he (hk _ (by subst hL; exact Mg.rowPuts [c] w L xs q hM k hk0) (fun so ls r => Rd.setNo r (qba hM k hk0 q u hu) (zjd hn) c))
end
theorem zka {P : Program} {ts : Array TypeId} {ty : TypeId} {m k : Nat} : ∀ w cs, (builtin .min ts ty cs #[.int .i64 ((m : Nat) : Int), .int .i64 ((k : Nat) : Int)]).run P w = .ok (.value (.int .i64 ((min m k : Nat) : Int))) w := fun w cs => by
  have e : (if ((k : Nat) : Int) < ((m : Nat) : Int) then ((k : Nat) : Int) else ((m : Nat) : Int)) = ((min m k : Nat) : Int) := by split <;> omega
  simp only [BigFrame.builtin_min, Sem.run_bind, run_min_int2, Result.andThen_ok, Sem.run_pure, e]
def leB (n F : Nat) : List UInt8 := (List.range n).map fun i => UInt8.ofNat (F / 256 ^ i % 256)
def lbI (n F i : Nat) : List UInt8 := (List.range n).map fun j => if j < i then UInt8.ofNat (F / 256 ^ j % 256) else 0
theorem qbc (n F : Nat) : (leB n F).length = n := by simp [leB]
theorem qbd (n F i : Nat) : (lbI n F i).length = n := by simp [lbI]
theorem zkb {n F i j : Nat} (h : j < n) : (lbI n F i).getD j 0 = if j < i then UInt8.ofNat (F / 256 ^ j % 256) else 0 := by
  unfold lbI
  rw [List.getD_eq_getElem?_getD, List.getElem?_map, List.getElem?_range h]
  rfl
theorem qsj (x : Nat) : (UInt8.ofNat (x % 256)).toNat = x % 256 := by rw [UInt8.toNat_ofNat']; omega
theorem zaf (n F : Nat) : (madeCells (Value.int .u8 0).cells (n * 1)).toList = Lib.byteCells (lbI n F 0) := by
  unfold madeCells Lib.byteCells lbI
  rw [Array.toList_map, Array.toList_range, Nat.mul_one, List.map_map]
  refine List.map_congr_left fun k _ => ?_
  show (Value.int .u8 0).cells[k % 1]! = _
  rw [Nat.mod_one]
  simp
  rfl
theorem zag {n F i : Nat} (h : i < n) : over (Lib.byteCells (lbI n F i)) (i * 1) [.int .u8 ((F / 256 ^ i % 256 : Nat) : Int)] = Lib.byteCells (lbI n F (i + 1)) := by
  rw [Nat.mul_one]
  show (Lib.byteCells (lbI n F i)).set i _ = _
  refine List.ext_getElem? fun k => ?_
  have hl : (Lib.byteCells (lbI n F i)).length = n := by rw [Lib.byteCells_length, qbd]
  by_cases hk : k < n
  · by_cases e : k = i
    · subst e
      rw [List.getElem?_set_self (by omega)]
      have h2 := kk (l := lbI n F (k + 1)) (i := k) (by rw [qbd]; exact hk)
      rw [Nat.mul_one, zkb hk, if_pos (by omega), qsj] at h2
      exact h2.symm
    · rw [List.getElem?_set_ne (fun q => e q.symm)]
      have h1 := kk (l := lbI n F i) (i := k) (by rw [qbd]; exact hk)
      have h2 := kk (l := lbI n F (i + 1)) (i := k) (by rw [qbd]; exact hk)
      rw [Nat.mul_one, zkb hk] at h1 h2
      rw [h1, h2]
      by_cases q : k < i
      · rw [if_pos q, if_pos (by omega)]
      · rw [if_neg q, if_neg (by omega)]
  · rw [List.getElem?_eq_none (by simp; omega), List.getElem?_eq_none (by rw [Lib.byteCells_length, qbd]; omega)]
theorem zah {n F i : Nat} (hi : i = min n ((words F).length * 4)) : lbI n F i = leB n F := by
  unfold lbI leB
  refine List.map_congr_left fun j hj => ?_
  have hj := List.mem_range.1 hj
  by_cases h : j < i
  · rw [if_pos h]
  · rw [if_neg h]
    have hge : (words F).length * 4 ≤ j := by omega
    have hF : F < 256 ^ j := by
      have h1 := words_length_iff.1 (Nat.le_refl (words F).length)
      refine Nat.lt_of_lt_of_le h1 ?_
      rw [pw_two, show (256 : Nat) = 2 ^ 8 from rfl, ← Nat.pow_mul]
      exact Nat.pow_le_pow_right (by decide) (by omega)
    rw [Nat.div_eq_of_lt hF]
    rfl
theorem qwb : ∀ (n F : Nat), F < 256 ^ n → leN (leB n F) = F
  | 0, F, h => by simp at h; subst h; rfl
  | n + 1, F, h => by
    have h1 : F / 256 < 256 ^ n := by rw [Nat.pow_succ] at h; exact Nat.div_lt_of_lt_mul (by rw [Nat.mul_comm]; exact h)
    have ih := qwb n (F / 256) h1
    have e : leB (n + 1) F = UInt8.ofNat (F % 256) :: leB n (F / 256) := by
      unfold leB
      rw [List.range_succ_eq_map, List.map_cons, List.map_map]
      congr 1
      · rw [Nat.pow_zero, Nat.div_one]
      · refine List.map_congr_left fun j _ => ?_
        show UInt8.ofNat (F / 256 ^ (j + 1) % 256) = UInt8.ofNat (F / 256 / 256 ^ j % 256)
        rw [Nat.div_div_eq_div_mul, Nat.pow_succ, Nat.mul_comm 256]
    rw [e, leN, ih, qsj]
    omega
theorem zkc (F i : Nat) : (words F).getD (i / 4) 0 / 2 ^ (i % 4 * 8) % 256 = F / 256 ^ i % 256 := by
  rw [words_getD, pw_two]
  have hr : i % 4 < 4 := Nat.mod_lt _ (by decide)
  have e1 : (4294967296 : Nat) = 2 ^ (i % 4 * 8) * 2 ^ (32 - i % 4 * 8) := by
    rw [← Nat.pow_add, show i % 4 * 8 + (32 - i % 4 * 8) = 32 from by omega]
  rw [e1, Nat.mod_mul_right_div_self, Nat.div_div_eq_div_mul, ← Nat.pow_add]
  have e2 : 32 * (i / 4) + i % 4 * 8 = 8 * i := by omega
  rw [e2, Nat.pow_mul, Nat.mod_mod_of_dvd]
  have e3 : (2 : Nat) ^ (32 - i % 4 * 8) = 2 ^ 8 * 2 ^ (24 - i % 4 * 8) := by rw [← Nat.pow_add]; congr 1; omega
  rw [e3]
  exact Nat.dvd_mul_right _ _
theorem jab (bg : Bool) (p : List UInt8) : qbb bg (qbb bg p) = p := by unfold qbb; cases bg <;> simp
set_option maxRecDepth 100000
theorem ByP_is1_22 : Is1 Tryz.prog 22 := ⟨⟨_, Tryz.underlying22, rfl⟩, by kernel_rfl⟩
theorem ByP_is1_3 : Is1 Tryz.prog 3 := ⟨⟨_, Tryz.underlying3, rfl⟩, by kernel_rfl⟩
theorem ByP_is1_4 : Is1 Tryz.prog 4 := ⟨⟨_, Tryz.underlying4, rfl⟩, by kernel_rfl⟩
theorem ByP_is1_77 : Is1 Tryz.prog 77 := ⟨⟨_, Tryz.underlying77, rfl⟩, by kernel_rfl⟩
theorem ByP_fld_24_0 : FieldAt Tryz.prog 24 0 0 := ⟨_, _, Tryz.underlying24, rfl, rfl, by kernel_rfl⟩
theorem ByP_fld_24_1 : FieldAt Tryz.prog 24 1 1 := ⟨_, _, Tryz.underlying24, rfl, rfl, by kernel_rfl⟩
theorem ByP_fld_26_0 : FieldAt Tryz.prog 26 0 0 := ⟨_, _, Tryz.underlying26, rfl, rfl, by kernel_rfl⟩
theorem ByP_fld_65_0 : FieldAt Tryz.prog 65 0 0 := ⟨_, _, Tryz.underlying65, rfl, rfl, by kernel_rfl⟩
theorem ByP_fld_65_2 : FieldAt Tryz.prog 65 2 2 := ⟨_, _, Tryz.underlying65, rfl, rfl, by kernel_rfl⟩
theorem ByP_isS_26 : IsS Tryz.prog 26 6 := ⟨⟨_, Tryz.underlying26⟩, by kernel_rfl⟩
theorem ByP_isS_65 : IsS Tryz.prog 65 3 := ⟨⟨_, Tryz.underlying65⟩, by kernel_rfl⟩
theorem qta {w : World} {n : Nat} {bg : Bool} (h1 : 1 ≤ n) (h64 : n ≤ 64) : Calls Tryz.prog 72 #[.agg #[.int .i64 ((n : Nat) : Int), .bool bg, .bool true]] w fun e w' => e = .returned (.int .i64 ((n * 8 - 1 : Nat) : Int)) ∧ Below w.heap.size w w' := by
 have M : Mg w w ([]) := Mg.start w
 refine qy (l := [(0, .agg #[.int .i64 (((n : Nat) : Int)), .bool bg, .bool true])]) Tryz.func72 rfl Tryz.ntmps72 rfl rfl ?_
 intro Q hret hnorm hP a A
 refine wsk fun K1 hK1 => wrl (xm (vs := [.int .i64 (((n : Nat) : Int)), .bool bg, .bool true]) (t := 65) A M rfl rfl rfl pg (qw rfl rfl) (by decide) ?_)
 intro g2 w3 M a A
 refine sda A λa A↦?_
 refine qa (hK1 _ _ (wsk fun K4 hK4 => wsk fun K5 hK5 => wrl (sdo (v := .pointer (some ⟨g2, 2, none⟩)) A (qf ByP_fld_65_2 rfl rfl) λa A↦?_)))
 refine sdo A (zq M ByP_is1_4 rfl 0 rfl rfl) λa A↦?_
 refine qa (hK5 _ _ (wp_cond_true (A.ev rfl) ?_))
 refine wsk fun K6 hK6 => wrl (sdo (v := .pointer (some ⟨g2, 0, none⟩)) A (qf ByP_fld_65_0 rfl rfl) λa A↦?_)
 refine sdo A (zq M ByP_is1_3 rfl 0 rfl rfl) λa A↦?_
 refine sdo (v := .int .i64 (((n * 8 : Nat) : Int))) A (qe rfl rfl (ar_mul ((in_i64 (by omega) (by omega)).trans (by omega)))) λa A↦?_
 refine sdo (v := .int .i64 (((n * 8 - 1 : Nat) : Int))) A (qe rfl rfl (ar_sub ((in_i64 (by omega) (by omega)).trans (by omega)))) λa A↦?_
 refine sda A λa A↦?_
 refine qa (hK6 _ _ (wp_ret (hret _ _ (en1 A rfl (qj rfl) ?_))))
 exact ⟨rfl, M.bel⟩
theorem yw {w w' : World} {q : Q6} {o1 o2 o3 o4 : Option Addr} {c1 c2 c3 c4 : Nat} (h : Nm w q o1 c1 o2 c2 o3 c3 o4 c4) (hb : Below w.heap.size w w') : Nm w' q o1 c1 o2 c2 o3 c3 o4 c4 := xv h (fun _ _ r => r.below hb)
theorem jac {b : Bool} {x : Nat} (hx : (words x).length ≤ 512) (hb : b.toNat ≤ x) : ji (Q6.whole b x) = 0 := by
 unfold ji jv
 rw [vb hx hb]
 simp [Q6.whole]
theorem wrap8 (z : Nat) : IntKind.u8.wrap ((z : Nat) : Int) = ((z % 256 : Nat) : Int) := by
 have e : IntKind.u8.wrap ((z : Nat) : Int) = ((z : Nat) : Int) % 256 := by
  unfold IntKind.wrap
  show (if (false : Bool) = true then _ else _) = _
  rfl
 rw [e]
 omega
theorem qff (bg : Bool) {w : World} {sp : Option Addr} {cp : Nat} {p : List UInt8} {sg : Bool} (hp : Rb w sp p) (hl : p.length ≤ 140737488351232) : Calls Tryz.prog 73 #[.agg #[.int .i64 ((p.length : Nat) : Int), .bool bg, .bool sg], .slice sp p.length cp] w fun e w' => ∃ g, e = .returned (.slice (some ⟨g, 0, none⟩) p.length p.length) ∧ Mg w w' [.row BY 1 (.slice (some ⟨g, 0, none⟩) p.length p.length) p.length (Lib.byteCells (qbb bg p))] := by
 cases bg
 ·
  exact yh hp hl
 ·
  exact yu hp hl
theorem qwc {w : World} {b : Bool} {x n : Nat} {o1 o2 o3 o4 : Option Addr} {c1 c2 c3 c4 : Nat} (ha : Nm w (Q6.whole b x) o1 c1 o2 c2 o3 c3 o4 c4) (hx : (words x).length ≤ 512) (hbx : b.toNat ≤ x) (h1 : 1 ≤ n) (h64 : n ≤ 64) (bg : Bool) {F ln : Nat} (hF : fld b (x - b.toNat) 0 (n * 8) = F) (hln : bl (x - b.toNat) = ln) (hroom : ln ≤ n * 8 - 1)  : Calls Tryz.prog 27 #[.agg #[.int .i64 ((n : Nat) : Int), .bool bg, .bool true], jx (Q6.whole b x) o1 c1 o2 c2 o3 c3 o4 c4] w fun e w' => ∃ g, e = .returned (.tuple #[.slice (some ⟨g, 0, none⟩) n n, .int .i64 0]) ∧ Mg w w' [.row BY 1 (.slice (some ⟨g, 0, none⟩) n n) n (Lib.byteCells (qbb bg (leB n F)))] := by
 have hw := jac hx hbx
 have hwl : (words F).length ≤ 512 := by rw [← hF]; exact zxc (by omega)
 have M : Mg w w ([]) := Mg.start w
 refine qy (l := [(0, .agg #[.int .i64 (((n : Nat) : Int)), .bool bg, .bool true]), (1, .agg #[.bool b, .slice o1 ((words x).length) c1, .slice o2 1 c2, .bool false, .slice o3 0 c3, .slice o4 1 c4])]) Tryz.func27 rfl Tryz.ntmps27 rfl rfl ?_
 intro Q hret hnorm hP a A
 refine wsk fun K1 hK1 => wrl (xm (vs := [.int .i64 (((n : Nat) : Int)), .bool bg, .bool true]) (t := 65) A M rfl rfl rfl pg (qw rfl rfl) (by decide) ?_)
 intro g2 w3 M a A
 refine xm (vs := [.bool b, .slice o1 ((words x).length) c1, .slice o2 1 c2, .bool false, .slice o3 0 c3, .slice o4 1 c4]) (t := 26) A M rfl rfl rfl pg (qw rfl rfl) (by decide) ?_
 intro g4 w5 M a A
 iterate 2 refine sda A λa A↦?_
 refine qa (hK1 _ _ (wsk fun K6 hK6 => wrl (sdo A (jh M ByP_isS_26 rfl 0 rfl (cs := [.bool b, .slice o1 ((words x).length) c1, .slice o2 1 c2, .bool false, .slice o3 0 c3, .slice o4 1 c4]) rfl rfl) λa A↦?_)))
 refine qg A rfl rfl rfl (qb rfl rfl (fun w => by kernel_rfl)) ((by have h9 := qhc (w := w5) (yw ha M.bel) (xq hx) hw hx hbx; rw [uf hw, hln] at h9; exact h9)) ?_
 rintro _ w8 ⟨rfl, hb7⟩
 replace M := M.call hb7
 refine ⟨_, rfl, ?_⟩
 intro a A
 refine sdm A λa A↦?_
 iterate 2 refine sdo A (qm (vs := [.int .i64 (((ln : Nat) : Int)), .int .i64 0]) rfl rfl) λa A↦?_
 iterate 2 refine sda A λa A↦?_
 refine qa (hK6 _ _ (wsk fun K9 hK9 => wsk fun K10 hK10 => wrl (sdm A λa A↦?_)))
 refine sdo (v := .bool false) A (qe rfl rfl (fun w => by kernel_rfl)) λa A↦?_
 refine qa (hK10 _ _ (wp_cond_false (A.ev rfl) ?_))
 refine wp_skip (hK9 _ _ (wsk fun K11 hK11 => wsk fun K12 hK12 => wrl (sdo (v := .pointer (some ⟨g4, 0, none⟩)) A (qf ByP_fld_26_0 rfl rfl) λa A↦?_)))
 refine sdo (v := .pointer (some ⟨g4, 0, none⟩)) A (qf ByP_fld_24_0 rfl rfl) λa A↦?_
 refine sdo A (zq M ByP_is1_4 rfl 0 rfl rfl) λa A↦?_
 refine sdm A λa A↦?_
 rcases b with _ | _
 ·
  iterate 3 refine ze A rfl rfl rfl λa A↦?_
  refine sdk (v := .bool false) A λa A↦?_
  iterate 2 refine sdm A λa A↦?_
  refine sdo A (jh M ByP_isS_65 rfl 1 rfl (cs := [.int .i64 (((n : Nat) : Int)), .bool bg, .bool true]) rfl rfl) λa A↦?_
  refine qg A rfl rfl rfl (qb rfl rfl (fun w => by kernel_rfl)) (qta h1 h64) ?_
  rintro _ w14 ⟨rfl, hb13⟩
  replace M := M.call hb13
  refine ⟨_, rfl, ?_⟩
  intro a A
  refine sdo (v := .bool false) A (qe rfl rfl (fun w => (ju w).trans (by rw [show (decide (((n * 8 - 1 : Nat) : Int) < ((ln : Nat) : Int))) = false from (decide_eq_false (by omega))]))) λa A↦?_
  refine sdk (v := .bool false) A λa A↦?_
  refine qa (hK12 _ _ (wp_cond_false (A.ev rfl) ?_))
  refine wp_skip (hK11 _ _ (wsk fun K15 hK15 => wrl (sdo A (jh M ByP_isS_26 rfl 0 rfl (cs := [.bool false, .slice o1 ((words x).length) c1, .slice o2 1 c2, .bool false, .slice o3 0 c3, .slice o4 1 c4]) rfl rfl) λa A↦?_)))
  refine sdo (v := .pointer (some ⟨g2, 0, none⟩)) A (qf ByP_fld_65_0 rfl rfl) λa A↦?_
  refine sdo A (zq M ByP_is1_3 rfl 1 rfl rfl) λa A↦?_
  refine sdo (v := .int .i64 (((n * 8 : Nat) : Int))) A (qe rfl rfl (ar_mul ((in_i64 (by omega) (by omega)).trans (by omega)))) λa A↦?_
  refine qg A rfl rfl rfl (qb rfl rfl (fun w => by kernel_rfl)) ((show Calls Tryz.prog 9 _ _ (AnsN _ (Q6.whole false F, 0)) from (by have h9 := qdj (w := w14) (S := 0) (E := n * 8) (yw ha M.bel) (xq hx) (by omega) (by omega) hw hx hbx; rw [qed hw (by omega) (by omega), Nat.sub_zero, hF] at h9; exact h9))) ?_
  rintro _ w19 ⟨o18_1, o18_c1, o18_2, o18_c2, o18_3, o18_c3, o18_4, o18_c4, rfl, hn16, hb17⟩
  replace M := M.call hb17
  refine ⟨_, rfl, ?_⟩
  intro a A
  refine sdm A λa A↦?_
  iterate 2 refine sdo A (qm (vs := [.agg #[.bool false, .slice o18_1 ((words F).length) o18_c1, .slice o18_2 1 o18_c2, .bool false, .slice o18_3 0 o18_c3, .slice o18_4 1 o18_c4], .int .i64 0]) rfl rfl) λa A↦?_
  refine qwa (vs := [.bool false, .slice none 0 0, .slice none 0 0, .bool false, .slice none 0 0, .slice none 0 0]) (t := 26) A M rfl rfl rfl pg (ql (z := .agg #[.bool false, .slice none 0 0, .slice none 0 0, .bool false, .slice none 0 0, .slice none 0 0]) (by kernel_rfl) rfl) (by decide) ?_
  intro g20 w21 M hc22 a A
  replace hn16 := xv hn16 hc22
  refine ut (us := [.bool false, .slice o18_1 ((words F).length) o18_c1, .slice o18_2 1 o18_c2, .bool false, .slice o18_3 0 o18_c3, .slice o18_4 1 o18_c4]) (L' := (.obj g20 (.cells #[.bool false, .slice o18_1 ((words F).length) o18_c1, .slice o18_2 1 o18_c2, .bool false, .slice o18_3 0 o18_c3, .slice o18_4 1 o18_c4] 26) :: .obj g4 (.cells #[.bool false, .slice o1 ((words x).length) c1, .slice o2 1 c2, .bool false, .slice o3 0 c3, .slice o4 1 c4] 26) :: .obj g2 (.cells #[.int .i64 (((n : Nat) : Int)), .bool bg, .bool true] 65) :: [])) A M rfl rfl (xa rfl rfl rfl (by kernel_rfl) M 0 rfl rfl rfl) 0 rfl rfl rfl rfl rfl rfl ?_
  intro w23 M hc24
  replace hn16 := xv hn16 hc24
  refine sda A λa A↦?_
  refine qa (hK15 _ _ (wsk fun K25 hK25 => wrl (sdo (v := .pointer (some ⟨g2, 0, none⟩)) A (qf ByP_fld_65_0 rfl rfl) λa A↦?_)))
  refine sdo A (zq M ByP_is1_3 rfl 2 rfl rfl) λa A↦?_
  refine zjj (z := .int .u8 0) (sz := 1) (by_ := 1) (m := n) A M Tryz.underlying31 (by kernel_rfl) rfl rfl rfl rfl rfl rfl (by omega) (by omega) (.inr (qp (by simp) (qp (by simp) (qp (by simp) (zb zd))))) ?_
  intro gx w26 M hc27 a A
  replace hn16 := xv hn16 hc27
  rw [zaf n F] at M
  refine sda A λa A↦?_
  refine qa (hK25 _ _ (wsk fun K28 hK28 => wsk fun K29 hK29 => wrl (sdo (v := .pointer (some ⟨g2, 0, none⟩)) A (qf ByP_fld_65_0 rfl rfl) λa A↦?_)))
  refine sdo A (zq M ByP_is1_3 rfl 3 rfl rfl) λa A↦?_
  refine sdo (v := .pointer (some ⟨g20, 0, none⟩)) A (qf ByP_fld_26_0 rfl rfl) λa A↦?_
  refine sdo (v := .pointer (some ⟨g20, 1, none⟩)) A (qf ByP_fld_24_1 rfl rfl) λa A↦?_
  refine sdo A (zq M ByP_is1_22 rfl 1 rfl rfl) λa A↦?_
  refine sdo A (zg Tryz.underlying22 rfl) λa A↦?_
  refine sdo (v := .int .i64 ((((words F).length * 4 : Nat) : Int))) A (qe rfl rfl (ar_mul ((in_i64 (by omega) (by omega)).trans (by omega)))) λa A↦?_
  refine sdo (v := .int .i64 (((min n ((words F).length * 4) : Nat) : Int))) A (vr rfl zka) λa A↦?_
  refine sdm A λa A↦?_
  refine qa (hK29 _ _ (wp_block (js (fun m_ a w1 => ∃ (i : Nat), m_ = n - i ∧ (i ≤ min n ((words F).length * 4) ∧ Rd w1 o18_1 (words F)) ∧ Sl a 75 [(0, .agg #[.int .i64 (((n : Nat) : Int)), .bool bg, .bool true]), (1, .agg #[.bool false, .slice o1 ((words x).length) c1, .slice o2 1 c2, .bool false, .slice o3 0 c3, .slice o4 1 c4]), (2, .pointer (some ⟨g2, 0, none⟩)), (3, .pointer (some ⟨g4, 0, none⟩)), (4, .slice none 0 0), (5, .int .i64 0), (6, .int .i64 (((ln : Nat) : Int))), (7, .int .i64 0), (8, .pointer (some ⟨g20, 0, none⟩)), (9, .int .i64 0), (10, .slice (some ⟨gx, 0, none⟩) n n), (12, .tuple #[.int .i64 (((ln : Nat) : Int)), .int .i64 0]), (13, .agg #[.bool false, .slice o1 ((words x).length) c1, .slice o2 1 c2, .bool false, .slice o3 0 c3, .slice o4 1 c4]), (14, .tuple #[.int .i64 (((ln : Nat) : Int)), .int .i64 0]), (15, .int .i64 (((ln : Nat) : Int))), (16, .int .i64 0), (17, .int .i64 0), (18, .bool false), (20, .pointer (some ⟨g4, 0, none⟩)), (21, .pointer (some ⟨g4, 0, none⟩)), (22, .bool false), (23, .bool false), (27, .bool false), (28, .bool false), (29, .int .i64 (((ln : Nat) : Int))), (30, .agg #[.int .i64 (((n : Nat) : Int)), .bool bg, .bool true]), (31, .int .i64 (((n * 8 - 1 : Nat) : Int))), (32, .bool false), (33, .bool false), (34, .tuple #[.agg #[.bool false, .slice o18_1 ((words F).length) o18_c1, .slice o18_2 1 o18_c2, .bool false, .slice o18_3 0 o18_c3, .slice o18_4 1 o18_c4], .int .i64 0]), (35, .agg #[.bool false, .slice o1 ((words x).length) c1, .slice o2 1 c2, .bool false, .slice o3 0 c3, .slice o4 1 c4]), (36, .pointer (some ⟨g2, 0, none⟩)), (37, .int .i64 (((n : Nat) : Int))), (38, .int .i64 (((n * 8 : Nat) : Int))), (39, .tuple #[.agg #[.bool false, .slice o18_1 ((words F).length) o18_c1, .slice o18_2 1 o18_c2, .bool false, .slice o18_3 0 o18_c3, .slice o18_4 1 o18_c4], .int .i64 0]), (40, .agg #[.bool false, .slice o18_1 ((words F).length) o18_c1, .slice o18_2 1 o18_c2, .bool false, .slice o18_3 0 o18_c3, .slice o18_4 1 o18_c4]), (41, .int .i64 0), (42, .pointer (some ⟨g2, 0, none⟩)), (43, .int .i64 (((n : Nat) : Int))), (44, .slice (some ⟨gx, 0, none⟩) n n), (45, .pointer (some ⟨g2, 0, none⟩)), (46, .int .i64 (((n : Nat) : Int))), (47, .pointer (some ⟨g20, 0, none⟩)), (48, .pointer (some ⟨g20, 1, none⟩)), (49, .slice o18_1 ((words F).length) o18_c1), (50, .int .i64 ((((words F).length : Nat) : Int))), (51, .int .i64 ((((words F).length * 4 : Nat) : Int))), (52, .int .i64 (((min n ((words F).length * 4) : Nat) : Int))), (53, .int .i64 (((i : Nat) : Int)))] ∧ Mg w w1 (.row BY 1 (.slice (some ⟨gx, 0, none⟩) n n) n ((Lib.byteCells (lbI n F i))) :: .obj g20 (.cells #[.bool false, .slice o18_1 ((words F).length) o18_c1, .slice o18_2 1 o18_c2, .bool false, .slice o18_3 0 o18_c3, .slice o18_4 1 o18_c4] 26) :: .obj g4 (.cells #[.bool false, .slice o1 ((words x).length) c1, .slice o2 1 c2, .bool false, .slice o3 0 c3, .slice o4 1 c4] 26) :: .obj g2 (.cells #[.int .i64 (((n : Nat) : Int)), .bool bg, .bool true] 65) :: [])) _ ⟨0, rfl, ⟨Nat.zero_le _, hn16.s1.rd⟩, A.keep _ ⟨rfl, rfl, rfl, rfl, rfl, rfl, rfl, rfl, rfl, rfl, rfl, rfl, rfl, rfl, rfl, rfl, rfl, rfl, rfl, rfl, rfl, rfl, rfl, rfl, rfl, rfl, rfl, rfl, rfl, rfl, rfl, rfl, rfl, rfl, rfl, rfl, rfl, rfl, rfl, rfl, rfl, rfl, rfl, rfl, rfl, rfl, rfl, rfl, rfl, trivial⟩, M⟩ ?_)))
  clear M A
  rintro m_ a w30 ⟨i, rfl, hinv32, A, M⟩ K31 hK31
  obtain ⟨hi9, hrdF⟩ := hinv32
  refine wsk fun K33 hK33 => wrl ?_
  rcases tf (decide (((i : Nat) : Int) < ((min n ((words F).length * 4) : Nat) : Int))) with hb34 | hb34
  ·
   have hb34' := of_decide_eq_true hb34
   refine sdo (v := .bool true) A (qe rfl rfl (fun w => (zt w).trans (by rw [hb34]))) λa A↦?_
   refine qa (hK33 _ _ (wsk fun K35 hK35 => wp_cond_true (A.ev rfl) ?_))
   refine wp_skip (hK35 _ _ (wsk fun K36 hK36 => wp_block (wsk fun K37 hK37 => wrl (sdm A λa A↦?_))))
   refine sda A λa A↦?_
   refine qa (hK37 _ _ (wrl ?_))
   iterate 2 refine sdm A λa A↦?_
   refine sdo (v := .pointer (some ⟨g20, 0, none⟩)) A (qf ByP_fld_26_0 rfl rfl) λa A↦?_
   refine sdo (v := .pointer (some ⟨g20, 1, none⟩)) A (qf ByP_fld_24_1 rfl rfl) λa A↦?_
   refine sdo A (zq M ByP_is1_22 rfl 1 rfl rfl) λa A↦?_
   refine sdm A λa A↦?_
   refine sdo (v := .int .i64 (((i / 4 : Nat) : Int))) A (qe rfl rfl (ar_quo (by decide) ((congrArg IntKind.i64.wrap (Int.tdiv_eq_ediv_of_nonneg (by omega))).trans ((in_i64 (by omega) (by omega)).trans (by omega))))) λa A↦?_
   have hj9 : i / 4 < (words F).length := by omega
   obtain ⟨bx38, ox39, hx40⟩ := hrdF.addr hj9
   refine sdo (v := .pointer (some ⟨bx38, ox39 + i / 4, none⟩)) A (zw (k := i / 4) Tryz.underlying22 (by kernel_rfl) rfl rfl rfl hx40 hj9) λa A↦?_
   refine sdo (v := .int .u32 ((((words F).getD (i / 4) 0 : Nat) : Int))) A (zji (hrdF.at_ hx40 hj9) ByP_is1_77 rfl) λa A↦?_
   refine sdm A λa A↦?_
   refine sdo (v := .int .i64 (((i % 4 : Nat) : Int))) A (qe rfl rfl (ar_rem (by decide) ((Int.tmod_eq_emod_of_nonneg (by omega)).trans (by omega)))) λa A↦?_
   refine sdo (v := .int .i64 (((i % 4 * 8 : Nat) : Int))) A (qe rfl rfl (ar_mul ((in_i64 (by omega) (by omega)).trans (by omega)))) λa A↦?_
   refine sdo (v := .int .u32 ((((words F).getD (i / 4) 0 / 2 ^ (i % 4 * 8) : Nat) : Int))) A (qe rfl rfl (ar_shr (n := i % 4 * 8) rfl (Nat.ble_eq_true_of_le (show i % 4 * 8 ≤ 32 by omega)) (by rw [Int.natCast_ediv, Int.natCast_pow]; rfl))) λa A↦?_
   refine sdo (v := .int .u8 (((F / 256 ^ i % 256 : Nat) : Int))) A (xe rfl (ar_conv Tryz.underlying77 Tryz.underlying5 (by rw [← zkc]; exact wrap8 _))) λa A↦?_
   refine sdo (v := .pointer (some ⟨gx, (i) * 1, none⟩)) A (jg Tryz.underlying31 (by kernel_rfl) rfl rfl rfl (show i < n by omega)) λa A↦?_
   refine qsi (c := .int .u8 (((F / 256 ^ i % 256 : Nat) : Int))) (L' := (.row BY 1 (.slice (some ⟨gx, 0, none⟩) n n) n ((over (Lib.byteCells (lbI n F i)) ((i) * 1) [.int .u8 (((F / 256 ^ i % 256 : Nat) : Int))])) :: .obj g20 (.cells #[.bool false, .slice o18_1 ((words F).length) o18_c1, .slice o18_2 1 o18_c2, .bool false, .slice o18_3 0 o18_c3, .slice o18_4 1 o18_c4] 26) :: .obj g4 (.cells #[.bool false, .slice o1 ((words x).length) c1, .slice o2 1 c2, .bool false, .slice o3 0 c3, .slice o4 1 c4] 26) :: .obj g2 (.cells #[.int .i64 (((n : Nat) : Int)), .bool bg, .bool true] 65) :: [])) A M rfl rfl (kt rfl rfl rfl (by kernel_rfl) M 0 rfl (show (i) * 1 + 1 ≤ n * 1 by omega) rfl) 0 rfl (kk (l := lbI n F i) (i := i) (by rw [qbd]; omega)) rfl rfl ?_
   intro w41 M hc42
   replace hrdF := hc42 _ _ hrdF
   replace M : Mg w w41 (.row BY 1 (.slice (some ⟨gx, 0, none⟩) n n) n ((Lib.byteCells (lbI n F (i + 1)))) :: .obj g20 (.cells #[.bool false, .slice o18_1 ((words F).length) o18_c1, .slice o18_2 1 o18_c2, .bool false, .slice o18_3 0 o18_c3, .slice o18_4 1 o18_c4] 26) :: .obj g4 (.cells #[.bool false, .slice o1 ((words x).length) c1, .slice o2 1 c2, .bool false, .slice o3 0 c3, .slice o4 1 c4] 26) :: .obj g2 (.cells #[.int .i64 (((n : Nat) : Int)), .bool bg, .bool true] 65) :: []) := by
    have h9 := M
    rw [zag (by omega)] at h9
    exact h9
   refine qa (hK36 _ _ (wrl (sdo (v := .int .i64 (((i + 1 : Nat) : Int))) A (qe rfl rfl (ar_add ((in_i64 (by omega) (by omega)).trans (by omega)))) λa A↦?_)))
   refine sdm A λa A↦?_
   refine qa ?_
   refine hK31 _ _ _ (by omega) ⟨i + 1, rfl, ⟨by omega, hrdF⟩, A.keep _ ⟨rfl, rfl, rfl, rfl, rfl, rfl, rfl, rfl, rfl, rfl, rfl, rfl, rfl, rfl, rfl, rfl, rfl, rfl, rfl, rfl, rfl, rfl, rfl, rfl, rfl, rfl, rfl, rfl, rfl, rfl, rfl, rfl, rfl, rfl, rfl, rfl, rfl, rfl, rfl, rfl, rfl, rfl, rfl, rfl, rfl, rfl, rfl, rfl, rfl, trivial⟩, M⟩
  ·
   have hb34' := of_decide_eq_false hb34
   refine sdo (v := .bool false) A (qe rfl rfl (fun w => (zt w).trans (by rw [hb34]))) λa A↦?_
   refine qa (hK33 _ _ (wsk fun K43 hK43 => wp_cond_false (A.ev rfl) ?_))
   refine wp_exit (hK28 _ _ (wsk fun K44 hK44 => wrl (sdo A (jh M ByP_isS_65 rfl 3 rfl (cs := [.int .i64 (((n : Nat) : Int)), .bool bg, .bool true]) rfl rfl) λa A↦?_)))
   refine sdm A λa A↦?_
   have hi8 : i = min n ((words F).length * 4) := by omega
   have hd8 := zah hi8
   replace M : Mg w w30 (.row BY 1 (.slice (some ⟨gx, 0, none⟩) n n) n ((Lib.byteCells (leB n F))) :: .obj g20 (.cells #[.bool false, .slice o18_1 ((words F).length) o18_c1, .slice o18_2 1 o18_c2, .bool false, .slice o18_3 0 o18_c3, .slice o18_4 1 o18_c4] 26) :: .obj g4 (.cells #[.bool false, .slice o1 ((words x).length) c1, .slice o2 1 c2, .bool false, .slice o3 0 c3, .slice o4 1 c4] 26) :: .obj g2 (.cells #[.int .i64 (((n : Nat) : Int)), .bool bg, .bool true] 65) :: []) := by
    have h9 := M
    rw [hd8] at h9
    exact h9
   refine qg A rfl rfl rfl (qb rfl rfl (fun w => by kernel_rfl)) ((by have h9 := qff bg (w := w30) (sg := true) (cp := n) (ui (bs := leB n F) M 0 rfl).1 (by rw [qbc]; omega); rw [qbc] at h9; exact h9)) ?_
   rintro _ w47 ⟨g45, rfl, hM46⟩
   replace M : Mg w w47 (.row BY 1 (.slice (some ⟨g45, 0, none⟩) n n) n ((Lib.byteCells (qbb bg (leB n F)))) :: .row BY 1 (.slice (some ⟨gx, 0, none⟩) n n) n ((Lib.byteCells (leB n F))) :: .obj g20 (.cells #[.bool false, .slice o18_1 ((words F).length) o18_c1, .slice o18_2 1 o18_c2, .bool false, .slice o18_3 0 o18_c3, .slice o18_4 1 o18_c4] 26) :: .obj g4 (.cells #[.bool false, .slice o1 ((words x).length) c1, .slice o2 1 c2, .bool false, .slice o3 0 c3, .slice o4 1 c4] 26) :: .obj g2 (.cells #[.int .i64 (((n : Nat) : Int)), .bool bg, .bool true] 65) :: []) := (M.both hM46 (qp (by simp) (qp (by simp) (qp (by simp) (qp (by simp) (zb zd))))) (qp (by simp) (zb zd)))
   refine ⟨_, rfl, ?_⟩
   intro a A
   iterate 2 refine sda A λa A↦?_
   refine qa (hK44 _ _ (wp_ret (hret _ _ (en2 A rfl (qj rfl) (qj rfl) ?_))))
   exact ⟨g45, rfl, M.sub (.cons_cons _ (.cons _ (.cons _ (.cons _ (.cons _ (.refl _))))))⟩
 ·
  refine sdo (v := .pointer (some ⟨g2, 2, none⟩)) A (qf ByP_fld_65_2 rfl rfl) λa A↦?_
  refine sdo A (zq M ByP_is1_4 rfl 1 rfl rfl) λa A↦?_
  refine sdo (v := .bool false) A (zk rfl zv) λa A↦?_
  refine sdk (v := .bool false) A λa A↦?_
  iterate 2 refine sdm A λa A↦?_
  refine sdo A (jh M ByP_isS_65 rfl 1 rfl (cs := [.int .i64 (((n : Nat) : Int)), .bool bg, .bool true]) rfl rfl) λa A↦?_
  refine qg A rfl rfl rfl (qb rfl rfl (fun w => by kernel_rfl)) (qta h1 h64) ?_
  rintro _ w49 ⟨rfl, hb48⟩
  replace M := M.call hb48
  refine ⟨_, rfl, ?_⟩
  intro a A
  refine sdo (v := .bool false) A (qe rfl rfl (fun w => (ju w).trans (by rw [show (decide (((n * 8 - 1 : Nat) : Int) < ((ln : Nat) : Int))) = false from (decide_eq_false (by omega))]))) λa A↦?_
  refine sdk (v := .bool false) A λa A↦?_
  refine qa (hK12 _ _ (wp_cond_false (A.ev rfl) ?_))
  refine wp_skip (hK11 _ _ (wsk fun K50 hK50 => wrl (sdo A (jh M ByP_isS_26 rfl 0 rfl (cs := [.bool true, .slice o1 ((words x).length) c1, .slice o2 1 c2, .bool false, .slice o3 0 c3, .slice o4 1 c4]) rfl rfl) λa A↦?_)))
  refine sdo (v := .pointer (some ⟨g2, 0, none⟩)) A (qf ByP_fld_65_0 rfl rfl) λa A↦?_
  refine sdo A (zq M ByP_is1_3 rfl 1 rfl rfl) λa A↦?_
  refine sdo (v := .int .i64 (((n * 8 : Nat) : Int))) A (qe rfl rfl (ar_mul ((in_i64 (by omega) (by omega)).trans (by omega)))) λa A↦?_
  refine qg A rfl rfl rfl (qb rfl rfl (fun w => by kernel_rfl)) ((show Calls Tryz.prog 9 _ _ (AnsN _ (Q6.whole false F, 0)) from (by have h9 := qdj (w := w49) (S := 0) (E := n * 8) (yw ha M.bel) (xq hx) (by omega) (by omega) hw hx hbx; rw [qed hw (by omega) (by omega), Nat.sub_zero, hF] at h9; exact h9))) ?_
  rintro _ w54 ⟨o53_1, o53_c1, o53_2, o53_c2, o53_3, o53_c3, o53_4, o53_c4, rfl, hn51, hb52⟩
  replace M := M.call hb52
  refine ⟨_, rfl, ?_⟩
  intro a A
  refine sdm A λa A↦?_
  iterate 2 refine sdo A (qm (vs := [.agg #[.bool false, .slice o53_1 ((words F).length) o53_c1, .slice o53_2 1 o53_c2, .bool false, .slice o53_3 0 o53_c3, .slice o53_4 1 o53_c4], .int .i64 0]) rfl rfl) λa A↦?_
  refine qwa (vs := [.bool false, .slice none 0 0, .slice none 0 0, .bool false, .slice none 0 0, .slice none 0 0]) (t := 26) A M rfl rfl rfl pg (ql (z := .agg #[.bool false, .slice none 0 0, .slice none 0 0, .bool false, .slice none 0 0, .slice none 0 0]) (by kernel_rfl) rfl) (by decide) ?_
  intro g55 w56 M hc57 a A
  replace hn51 := xv hn51 hc57
  refine ut (us := [.bool false, .slice o53_1 ((words F).length) o53_c1, .slice o53_2 1 o53_c2, .bool false, .slice o53_3 0 o53_c3, .slice o53_4 1 o53_c4]) (L' := (.obj g55 (.cells #[.bool false, .slice o53_1 ((words F).length) o53_c1, .slice o53_2 1 o53_c2, .bool false, .slice o53_3 0 o53_c3, .slice o53_4 1 o53_c4] 26) :: .obj g4 (.cells #[.bool true, .slice o1 ((words x).length) c1, .slice o2 1 c2, .bool false, .slice o3 0 c3, .slice o4 1 c4] 26) :: .obj g2 (.cells #[.int .i64 (((n : Nat) : Int)), .bool bg, .bool true] 65) :: [])) A M rfl rfl (xa rfl rfl rfl (by kernel_rfl) M 0 rfl rfl rfl) 0 rfl rfl rfl rfl rfl rfl ?_
  intro w58 M hc59
  replace hn51 := xv hn51 hc59
  refine sda A λa A↦?_
  refine qa (hK50 _ _ (wsk fun K60 hK60 => wrl (sdo (v := .pointer (some ⟨g2, 0, none⟩)) A (qf ByP_fld_65_0 rfl rfl) λa A↦?_)))
  refine sdo A (zq M ByP_is1_3 rfl 2 rfl rfl) λa A↦?_
  refine zjj (z := .int .u8 0) (sz := 1) (by_ := 1) (m := n) A M Tryz.underlying31 (by kernel_rfl) rfl rfl rfl rfl rfl rfl (by omega) (by omega) (.inr (qp (by simp) (qp (by simp) (qp (by simp) (zb zd))))) ?_
  intro gx w61 M hc62 a A
  replace hn51 := xv hn51 hc62
  rw [zaf n F] at M
  refine sda A λa A↦?_
  refine qa (hK60 _ _ (wsk fun K63 hK63 => wsk fun K64 hK64 => wrl (sdo (v := .pointer (some ⟨g2, 0, none⟩)) A (qf ByP_fld_65_0 rfl rfl) λa A↦?_)))
  refine sdo A (zq M ByP_is1_3 rfl 3 rfl rfl) λa A↦?_
  refine sdo (v := .pointer (some ⟨g55, 0, none⟩)) A (qf ByP_fld_26_0 rfl rfl) λa A↦?_
  refine sdo (v := .pointer (some ⟨g55, 1, none⟩)) A (qf ByP_fld_24_1 rfl rfl) λa A↦?_
  refine sdo A (zq M ByP_is1_22 rfl 1 rfl rfl) λa A↦?_
  refine sdo A (zg Tryz.underlying22 rfl) λa A↦?_
  refine sdo (v := .int .i64 ((((words F).length * 4 : Nat) : Int))) A (qe rfl rfl (ar_mul ((in_i64 (by omega) (by omega)).trans (by omega)))) λa A↦?_
  refine sdo (v := .int .i64 (((min n ((words F).length * 4) : Nat) : Int))) A (vr rfl zka) λa A↦?_
  refine sdm A λa A↦?_
  refine qa (hK64 _ _ (wp_block (js (fun m_ a w1 => ∃ (i : Nat), m_ = n - i ∧ (i ≤ min n ((words F).length * 4) ∧ Rd w1 o53_1 (words F)) ∧ Sl a 75 [(0, .agg #[.int .i64 (((n : Nat) : Int)), .bool bg, .bool true]), (1, .agg #[.bool true, .slice o1 ((words x).length) c1, .slice o2 1 c2, .bool false, .slice o3 0 c3, .slice o4 1 c4]), (2, .pointer (some ⟨g2, 0, none⟩)), (3, .pointer (some ⟨g4, 0, none⟩)), (4, .slice none 0 0), (5, .int .i64 0), (6, .int .i64 (((ln : Nat) : Int))), (7, .int .i64 0), (8, .pointer (some ⟨g55, 0, none⟩)), (9, .int .i64 0), (10, .slice (some ⟨gx, 0, none⟩) n n), (12, .tuple #[.int .i64 (((ln : Nat) : Int)), .int .i64 0]), (13, .agg #[.bool true, .slice o1 ((words x).length) c1, .slice o2 1 c2, .bool false, .slice o3 0 c3, .slice o4 1 c4]), (14, .tuple #[.int .i64 (((ln : Nat) : Int)), .int .i64 0]), (15, .int .i64 (((ln : Nat) : Int))), (16, .int .i64 0), (17, .int .i64 0), (18, .bool false), (20, .pointer (some ⟨g4, 0, none⟩)), (21, .pointer (some ⟨g4, 0, none⟩)), (22, .bool true), (23, .bool true), (24, .pointer (some ⟨g2, 2, none⟩)), (25, .bool true), (26, .bool false), (27, .bool false), (28, .bool false), (29, .int .i64 (((ln : Nat) : Int))), (30, .agg #[.int .i64 (((n : Nat) : Int)), .bool bg, .bool true]), (31, .int .i64 (((n * 8 - 1 : Nat) : Int))), (32, .bool false), (33, .bool false), (34, .tuple #[.agg #[.bool false, .slice o53_1 ((words F).length) o53_c1, .slice o53_2 1 o53_c2, .bool false, .slice o53_3 0 o53_c3, .slice o53_4 1 o53_c4], .int .i64 0]), (35, .agg #[.bool true, .slice o1 ((words x).length) c1, .slice o2 1 c2, .bool false, .slice o3 0 c3, .slice o4 1 c4]), (36, .pointer (some ⟨g2, 0, none⟩)), (37, .int .i64 (((n : Nat) : Int))), (38, .int .i64 (((n * 8 : Nat) : Int))), (39, .tuple #[.agg #[.bool false, .slice o53_1 ((words F).length) o53_c1, .slice o53_2 1 o53_c2, .bool false, .slice o53_3 0 o53_c3, .slice o53_4 1 o53_c4], .int .i64 0]), (40, .agg #[.bool false, .slice o53_1 ((words F).length) o53_c1, .slice o53_2 1 o53_c2, .bool false, .slice o53_3 0 o53_c3, .slice o53_4 1 o53_c4]), (41, .int .i64 0), (42, .pointer (some ⟨g2, 0, none⟩)), (43, .int .i64 (((n : Nat) : Int))), (44, .slice (some ⟨gx, 0, none⟩) n n), (45, .pointer (some ⟨g2, 0, none⟩)), (46, .int .i64 (((n : Nat) : Int))), (47, .pointer (some ⟨g55, 0, none⟩)), (48, .pointer (some ⟨g55, 1, none⟩)), (49, .slice o53_1 ((words F).length) o53_c1), (50, .int .i64 ((((words F).length : Nat) : Int))), (51, .int .i64 ((((words F).length * 4 : Nat) : Int))), (52, .int .i64 (((min n ((words F).length * 4) : Nat) : Int))), (53, .int .i64 (((i : Nat) : Int)))] ∧ Mg w w1 (.row BY 1 (.slice (some ⟨gx, 0, none⟩) n n) n ((Lib.byteCells (lbI n F i))) :: .obj g55 (.cells #[.bool false, .slice o53_1 ((words F).length) o53_c1, .slice o53_2 1 o53_c2, .bool false, .slice o53_3 0 o53_c3, .slice o53_4 1 o53_c4] 26) :: .obj g4 (.cells #[.bool true, .slice o1 ((words x).length) c1, .slice o2 1 c2, .bool false, .slice o3 0 c3, .slice o4 1 c4] 26) :: .obj g2 (.cells #[.int .i64 (((n : Nat) : Int)), .bool bg, .bool true] 65) :: [])) _ ⟨0, rfl, ⟨Nat.zero_le _, hn51.s1.rd⟩, A.keep _ ⟨rfl, rfl, rfl, rfl, rfl, rfl, rfl, rfl, rfl, rfl, rfl, rfl, rfl, rfl, rfl, rfl, rfl, rfl, rfl, rfl, rfl, rfl, rfl, rfl, rfl, rfl, rfl, rfl, rfl, rfl, rfl, rfl, rfl, rfl, rfl, rfl, rfl, rfl, rfl, rfl, rfl, rfl, rfl, rfl, rfl, rfl, rfl, rfl, rfl, rfl, rfl, rfl, trivial⟩, M⟩ ?_)))
  clear M A
  rintro m_ a w65 ⟨i, rfl, hinv67, A, M⟩ K66 hK66
  obtain ⟨hi9, hrdF⟩ := hinv67
  refine wsk fun K68 hK68 => wrl ?_
  rcases tf (decide (((i : Nat) : Int) < ((min n ((words F).length * 4) : Nat) : Int))) with hb69 | hb69
  ·
   have hb69' := of_decide_eq_true hb69
   refine sdo (v := .bool true) A (qe rfl rfl (fun w => (zt w).trans (by rw [hb69]))) λa A↦?_
   refine qa (hK68 _ _ (wsk fun K70 hK70 => wp_cond_true (A.ev rfl) ?_))
   refine wp_skip (hK70 _ _ (wsk fun K71 hK71 => wp_block (wsk fun K72 hK72 => wrl (sdm A λa A↦?_))))
   refine sda A λa A↦?_
   refine qa (hK72 _ _ (wrl ?_))
   iterate 2 refine sdm A λa A↦?_
   refine sdo (v := .pointer (some ⟨g55, 0, none⟩)) A (qf ByP_fld_26_0 rfl rfl) λa A↦?_
   refine sdo (v := .pointer (some ⟨g55, 1, none⟩)) A (qf ByP_fld_24_1 rfl rfl) λa A↦?_
   refine sdo A (zq M ByP_is1_22 rfl 1 rfl rfl) λa A↦?_
   refine sdm A λa A↦?_
   refine sdo (v := .int .i64 (((i / 4 : Nat) : Int))) A (qe rfl rfl (ar_quo (by decide) ((congrArg IntKind.i64.wrap (Int.tdiv_eq_ediv_of_nonneg (by omega))).trans ((in_i64 (by omega) (by omega)).trans (by omega))))) λa A↦?_
   have hj9 : i / 4 < (words F).length := by omega
   obtain ⟨bx73, ox74, hx75⟩ := hrdF.addr hj9
   refine sdo (v := .pointer (some ⟨bx73, ox74 + i / 4, none⟩)) A (zw (k := i / 4) Tryz.underlying22 (by kernel_rfl) rfl rfl rfl hx75 hj9) λa A↦?_
   refine sdo (v := .int .u32 ((((words F).getD (i / 4) 0 : Nat) : Int))) A (zji (hrdF.at_ hx75 hj9) ByP_is1_77 rfl) λa A↦?_
   refine sdm A λa A↦?_
   refine sdo (v := .int .i64 (((i % 4 : Nat) : Int))) A (qe rfl rfl (ar_rem (by decide) ((Int.tmod_eq_emod_of_nonneg (by omega)).trans (by omega)))) λa A↦?_
   refine sdo (v := .int .i64 (((i % 4 * 8 : Nat) : Int))) A (qe rfl rfl (ar_mul ((in_i64 (by omega) (by omega)).trans (by omega)))) λa A↦?_
   refine sdo (v := .int .u32 ((((words F).getD (i / 4) 0 / 2 ^ (i % 4 * 8) : Nat) : Int))) A (qe rfl rfl (ar_shr (n := i % 4 * 8) rfl (Nat.ble_eq_true_of_le (show i % 4 * 8 ≤ 32 by omega)) (by rw [Int.natCast_ediv, Int.natCast_pow]; rfl))) λa A↦?_
   refine sdo (v := .int .u8 (((F / 256 ^ i % 256 : Nat) : Int))) A (xe rfl (ar_conv Tryz.underlying77 Tryz.underlying5 (by rw [← zkc]; exact wrap8 _))) λa A↦?_
   refine sdo (v := .pointer (some ⟨gx, (i) * 1, none⟩)) A (jg Tryz.underlying31 (by kernel_rfl) rfl rfl rfl (show i < n by omega)) λa A↦?_
   refine qsi (c := .int .u8 (((F / 256 ^ i % 256 : Nat) : Int))) (L' := (.row BY 1 (.slice (some ⟨gx, 0, none⟩) n n) n ((over (Lib.byteCells (lbI n F i)) ((i) * 1) [.int .u8 (((F / 256 ^ i % 256 : Nat) : Int))])) :: .obj g55 (.cells #[.bool false, .slice o53_1 ((words F).length) o53_c1, .slice o53_2 1 o53_c2, .bool false, .slice o53_3 0 o53_c3, .slice o53_4 1 o53_c4] 26) :: .obj g4 (.cells #[.bool true, .slice o1 ((words x).length) c1, .slice o2 1 c2, .bool false, .slice o3 0 c3, .slice o4 1 c4] 26) :: .obj g2 (.cells #[.int .i64 (((n : Nat) : Int)), .bool bg, .bool true] 65) :: [])) A M rfl rfl (kt rfl rfl rfl (by kernel_rfl) M 0 rfl (show (i) * 1 + 1 ≤ n * 1 by omega) rfl) 0 rfl (kk (l := lbI n F i) (i := i) (by rw [qbd]; omega)) rfl rfl ?_
   intro w76 M hc77
   replace hrdF := hc77 _ _ hrdF
   replace M : Mg w w76 (.row BY 1 (.slice (some ⟨gx, 0, none⟩) n n) n ((Lib.byteCells (lbI n F (i + 1)))) :: .obj g55 (.cells #[.bool false, .slice o53_1 ((words F).length) o53_c1, .slice o53_2 1 o53_c2, .bool false, .slice o53_3 0 o53_c3, .slice o53_4 1 o53_c4] 26) :: .obj g4 (.cells #[.bool true, .slice o1 ((words x).length) c1, .slice o2 1 c2, .bool false, .slice o3 0 c3, .slice o4 1 c4] 26) :: .obj g2 (.cells #[.int .i64 (((n : Nat) : Int)), .bool bg, .bool true] 65) :: []) := by
    have h9 := M
    rw [zag (by omega)] at h9
    exact h9
   refine qa (hK71 _ _ (wrl (sdo (v := .int .i64 (((i + 1 : Nat) : Int))) A (qe rfl rfl (ar_add ((in_i64 (by omega) (by omega)).trans (by omega)))) λa A↦?_)))
   refine sdm A λa A↦?_
   refine qa ?_
   refine hK66 _ _ _ (by omega) ⟨i + 1, rfl, ⟨by omega, hrdF⟩, A.keep _ ⟨rfl, rfl, rfl, rfl, rfl, rfl, rfl, rfl, rfl, rfl, rfl, rfl, rfl, rfl, rfl, rfl, rfl, rfl, rfl, rfl, rfl, rfl, rfl, rfl, rfl, rfl, rfl, rfl, rfl, rfl, rfl, rfl, rfl, rfl, rfl, rfl, rfl, rfl, rfl, rfl, rfl, rfl, rfl, rfl, rfl, rfl, rfl, rfl, rfl, rfl, rfl, rfl, trivial⟩, M⟩
  ·
   have hb69' := of_decide_eq_false hb69
   refine sdo (v := .bool false) A (qe rfl rfl (fun w => (zt w).trans (by rw [hb69]))) λa A↦?_
   refine qa (hK68 _ _ (wsk fun K78 hK78 => wp_cond_false (A.ev rfl) ?_))
   refine wp_exit (hK63 _ _ (wsk fun K79 hK79 => wrl (sdo A (jh M ByP_isS_65 rfl 3 rfl (cs := [.int .i64 (((n : Nat) : Int)), .bool bg, .bool true]) rfl rfl) λa A↦?_)))
   refine sdm A λa A↦?_
   have hi8 : i = min n ((words F).length * 4) := by omega
   have hd8 := zah hi8
   replace M : Mg w w65 (.row BY 1 (.slice (some ⟨gx, 0, none⟩) n n) n ((Lib.byteCells (leB n F))) :: .obj g55 (.cells #[.bool false, .slice o53_1 ((words F).length) o53_c1, .slice o53_2 1 o53_c2, .bool false, .slice o53_3 0 o53_c3, .slice o53_4 1 o53_c4] 26) :: .obj g4 (.cells #[.bool true, .slice o1 ((words x).length) c1, .slice o2 1 c2, .bool false, .slice o3 0 c3, .slice o4 1 c4] 26) :: .obj g2 (.cells #[.int .i64 (((n : Nat) : Int)), .bool bg, .bool true] 65) :: []) := by
    have h9 := M
    rw [hd8] at h9
    exact h9
   refine qg A rfl rfl rfl (qb rfl rfl (fun w => by kernel_rfl)) ((by have h9 := qff bg (w := w65) (sg := true) (cp := n) (ui (bs := leB n F) M 0 rfl).1 (by rw [qbc]; omega); rw [qbc] at h9; exact h9)) ?_
   rintro _ w82 ⟨g80, rfl, hM81⟩
   replace M : Mg w w82 (.row BY 1 (.slice (some ⟨g80, 0, none⟩) n n) n ((Lib.byteCells (qbb bg (leB n F)))) :: .row BY 1 (.slice (some ⟨gx, 0, none⟩) n n) n ((Lib.byteCells (leB n F))) :: .obj g55 (.cells #[.bool false, .slice o53_1 ((words F).length) o53_c1, .slice o53_2 1 o53_c2, .bool false, .slice o53_3 0 o53_c3, .slice o53_4 1 o53_c4] 26) :: .obj g4 (.cells #[.bool true, .slice o1 ((words x).length) c1, .slice o2 1 c2, .bool false, .slice o3 0 c3, .slice o4 1 c4] 26) :: .obj g2 (.cells #[.int .i64 (((n : Nat) : Int)), .bool bg, .bool true] 65) :: []) := (M.both hM81 (qp (by simp) (qp (by simp) (qp (by simp) (qp (by simp) (zb zd))))) (qp (by simp) (zb zd)))
   refine ⟨_, rfl, ?_⟩
   intro a A
   iterate 2 refine sda A λa A↦?_
   refine qa (hK79 _ _ (wp_ret (hret _ _ (en2 A rfl (qj rfl) (qj rfl) ?_))))
   exact ⟨g80, rfl, M.sub (.cons_cons _ (.cons _ (.cons _ (.cons _ (.cons _ (.refl _))))))⟩
theorem ByQ_isS_26 : IsS Tryz.prog 26 6 := ⟨⟨_, Tryz.underlying26⟩, by kernel_rfl⟩
theorem ByQ_isS_65 : IsS Tryz.prog 65 3 := ⟨⟨_, Tryz.underlying65⟩, by kernel_rfl⟩
theorem zfi {w : World} {size : Int} {bg sg : Bool} {c : Bool} (h : yg size = c) : Calls Tryz.prog 25 #[.agg #[.int .i64 size, .bool bg, .bool sg]] w fun e w' => e = .returned (.bool c) ∧ Below w.heap.size w w' := h ▸ qla
theorem put_ok {w : World} {so : Option Addr} {ca : Nat} {l : List UInt8} (hb : Rb w so l) (hca : l.length ≤ ca) (hl : l.length ≤ 140737488351232) {an n : Nat} (h1 : 1 ≤ n) (h64 : n ≤ 64) (hle : an + n ≤ l.length) (bg sg : Bool) {q : Q6} {o1 o2 o3 o4 : Option Addr} {c1 c2 c3 c4 : Nat} {pl : List UInt8} (hpl : pl.length = n) (hlaid : ∀ W, Below w.heap.size w W → Calls Tryz.prog 27 #[.agg #[.int .i64 ((n : Nat) : Int), .bool bg, .bool sg], jx q o1 c1 o2 c2 o3 c3 o4 c4] W fun e w' => ∃ g, e = .returned (.tuple #[.slice (some ⟨g, 0, none⟩) n n, .int .i64 0]) ∧ Mg W w' [.row BY 1 (.slice (some ⟨g, 0, none⟩) n n) n (Lib.byteCells pl)]) : Calls Tryz.prog 7 #[.slice so l.length ca, .int .i64 ((an : Nat) : Int), .int .i64 ((n : Nat) : Int), .bool bg, .bool sg, jx q o1 c1 o2 c2 o3 c3 o4 c4] w fun e w' => ∃ v, e = .returned (.tuple #[v, .int .i64 0]) ∧ Mg w w' [.row BY 1 v (ovl an pl l).length (Lib.byteCells (ovl an pl l))] := by
 have k1 : yg ((n : Nat) : Int) = true := by unfold yg; apply decide_eq_true; omega
 have k2 : inB l.length ((an : Nat) : Int) ((n : Nat) : Int) = true := by unfold inB; apply decide_eq_true; omega
 have M : Mg w w ([]) := Mg.start w
 refine qy (l := [(0, .slice so l.length ca), (1, .int .i64 (((an : Nat) : Int))), (2, .int .i64 (((n : Nat) : Int))), (3, .bool bg), (4, .bool sg), (5, .agg #[.bool q.b1, .slice o1 q.t1.length c1, .slice o2 q.q1.length c2, .bool q.b2, .slice o3 q.t2.length c3, .slice o4 q.q2.length c4])]) Tryz.func7 rfl Tryz.ntmps7 rfl rfl ?_
 intro Q hret hnorm hP a A
 refine wsk fun K1 hK1 => wrl (xm (vs := [.bool q.b1, .slice o1 q.t1.length c1, .slice o2 q.q1.length c2, .bool q.b2, .slice o3 q.t2.length c3, .slice o4 q.q2.length c4]) (t := 26) A M rfl rfl rfl pg (qw rfl rfl) (by decide) ?_)
 intro g2 w3 M a A
 iterate 2 refine sda A λa A↦?_
 refine qa (hK1 _ _ (wsk fun K4 hK4 => wrl ?_))
 iterate 3 refine sdm A λa A↦?_
 refine sdo (v := .agg #[.int .i64 (((n : Nat) : Int)), .bool bg, .bool sg]) A (za rfl (fun w => by kernel_rfl)) λa A↦?_
 refine xm (vs := [.int .i64 0, .bool false, .bool false]) (t := 65) A M rfl rfl rfl pg (ql (z := .agg #[.int .i64 0, .bool false, .bool false]) (by kernel_rfl) rfl) (by decide) ?_
 intro g5 w6 M a A
 refine vk (us := [.int .i64 (((n : Nat) : Int)), .bool bg, .bool sg]) (L' := (.obj g5 (.cells #[.int .i64 (((n : Nat) : Int)), .bool bg, .bool sg] 65) :: .obj g2 (.cells #[.bool q.b1, .slice o1 q.t1.length c1, .slice o2 q.q1.length c2, .bool q.b2, .slice o3 q.t2.length c3, .slice o4 q.q2.length c4] 26) :: [])) A M rfl rfl (xa rfl rfl rfl (by kernel_rfl) M 0 rfl rfl rfl) 0 rfl rfl rfl ?_
 intro w7 M
 refine qa (hK4 _ _ (wsk fun K8 hK8 => wsk fun K9 hK9 => wrl (sdo A (jh M ByQ_isS_65 rfl 0 rfl (cs := [.int .i64 (((n : Nat) : Int)), .bool bg, .bool sg]) rfl rfl) λa A↦?_)))
 refine qg A rfl rfl rfl (qb rfl rfl (fun w => by kernel_rfl)) (zfi k1) ?_
 rintro _ w11 ⟨rfl, hb10⟩
 replace M := M.call hb10
 refine ⟨_, rfl, ?_⟩
 intro a A
 refine sdo (v := .bool false) A (zk rfl zv) λa A↦?_
 iterate 4 refine sdm A λa A↦?_
 refine qg A rfl rfl rfl (qb rfl rfl (fun w => by kernel_rfl)) (qsc hl (by omega) (by omega) (by omega) (by omega) k2) ?_
 rintro _ w13 ⟨rfl, hb12⟩
 replace M := M.call hb12
 refine ⟨_, rfl, ?_⟩
 intro a A
 refine sdo (v := .bool false) A (zk rfl zv) λa A↦?_
 refine sdk (v := .bool false) A λa A↦?_
 refine qa (hK9 _ _ (wp_cond_false (A.ev rfl) ?_))
 refine wp_skip (hK8 _ _ (wsk fun K14 hK14 => wrl (sdo A (jh M ByQ_isS_65 rfl 0 rfl (cs := [.int .i64 (((n : Nat) : Int)), .bool bg, .bool sg]) rfl rfl) λa A↦?_)))
 refine sdo A (jh M ByQ_isS_26 rfl 1 rfl (cs := [.bool q.b1, .slice o1 q.t1.length c1, .slice o2 q.q1.length c2, .bool q.b2, .slice o3 q.t2.length c3, .slice o4 q.q2.length c4]) rfl rfl) λa A↦?_
 refine qg A rfl rfl rfl (qb rfl rfl (fun w => by kernel_rfl)) (hlaid _ M.bel) ?_
 rintro _ w17 ⟨g15, rfl, hM16⟩
 replace M : Mg w w17 (.row BY 1 (.slice (some ⟨g15, 0, none⟩) n n) n ((Lib.byteCells pl)) :: .obj g5 (.cells #[.int .i64 (((n : Nat) : Int)), .bool bg, .bool sg] 65) :: .obj g2 (.cells #[.bool q.b1, .slice o1 q.t1.length c1, .slice o2 q.q1.length c2, .bool q.b2, .slice o3 q.t2.length c3, .slice o4 q.q2.length c4] 26) :: []) := (M.both hM16 (qp (by simp) (qp (by simp) (zb zd))) (qp (by simp) (zb zd)))
 refine ⟨_, rfl, ?_⟩
 intro a A
 refine sdm A λa A↦?_
 iterate 2 refine sdo A (qm (vs := [.slice (some ⟨g15, 0, none⟩) n n, .int .i64 0]) rfl rfl) λa A↦?_
 iterate 2 refine sda A λa A↦?_
 refine qa (hK14 _ _ (wsk fun K18 hK18 => wsk fun K19 hK19 => wrl (sdm A λa A↦?_)))
 refine sdo (v := .bool false) A (qe rfl rfl (fun w => by kernel_rfl)) λa A↦?_
 refine qa (hK19 _ _ (wp_cond_false (A.ev rfl) ?_))
 refine wp_skip (hK18 _ _ (wsk fun K20 hK20 => wrl ?_))
 iterate 3 refine sdm A λa A↦?_
 refine qg A rfl rfl rfl (qb rfl rfl (fun w => by kernel_rfl)) ((by have h9 := qve (w := w17) (an := an) (ca := ca) (cp := n) (l := l) (p := pl) (hb.below M.bel) (ui (bs := pl) M 0 rfl).1 hl (by omega); rw [hpl] at h9; exact h9)) ?_
 rintro _ w23 ⟨v21, rfl, hM22⟩
 replace M : Mg w w23 (.row BY 1 (v21) ((ovl an pl l).length) ((Lib.byteCells (ovl an pl l))) :: .row BY 1 (.slice (some ⟨g15, 0, none⟩) n n) n ((Lib.byteCells pl)) :: .obj g5 (.cells #[.int .i64 (((n : Nat) : Int)), .bool bg, .bool sg] 65) :: .obj g2 (.cells #[.bool q.b1, .slice o1 q.t1.length c1, .slice o2 q.q1.length c2, .bool q.b2, .slice o3 q.t2.length c3, .slice o4 q.q2.length c4] 26) :: []) := (M.both hM22 (qp (by simp) (qp (by simp) (qp (by simp) (zb zd)))) (qp (by simp) (zb zd)))
 refine ⟨_, rfl, ?_⟩
 intro a A
 iterate 2 refine sda A λa A↦?_
 refine qa (hK20 _ _ (wp_ret (hret _ _ (en2 A rfl (qj rfl) (qj rfl) ?_))))
 exact ⟨_, rfl, M.sub (.cons_cons _ (.cons _ (.cons _ (.cons _ (.refl _)))))⟩
end Go.Proofs.YtjkpfnghiooblaaGreatDoor.G
namespace Go.Proofs.YtjkpfnghiooblaaGreatDoor
open Go.RowKit
set_option linter.unusedVariables false
set_option linter.unusedSimpArgs false

theorem jad {an : Nat} {p l : List UInt8} {n : Nat} (hp : p.length = n) (hle : an + n ≤ l.length) : ((G.ovl an p l).drop an).take n = p := by
  unfold G.ovl
  rw [List.append_assoc, List.drop_append_of_le_length (by rw [List.length_take]; omega), List.drop_take, Nat.sub_self, List.take_zero, List.nil_append, ← hp, List.take_left]
theorem znb {b : Bool} {x n : Nat} (h1 : 1 ≤ n) (hb : b.toNat ≤ x) (hroom : bl (x - b.toNat) ≤ n * 8 - 1) : (b = false ∧ fld b (x - b.toNat) 0 (n * 8) = x ∧ x < 2 ^ (n * 8 - 1)) ∨ (b = true ∧ fld b (x - b.toNat) 0 (n * 8) = 256 ^ n - x ∧ 1 ≤ x ∧ x ≤ 2 ^ (n * 8 - 1)) := by
  have hz := qyf b (x - b.toNat) (n * 8)
  have hlt := bl_le.1 hroom
  have hp : 2 ^ (n * 8) = 2 * 2 ^ (n * 8 - 1) := by rw [← Nat.pow_succ']; congr 1; omega
  have h256 : 256 ^ n = 2 ^ (n * 8) := by rw [Nat.mul_comm, zjh]
  cases b with
  | false =>
    left
    refine ⟨rfl, ?_, by simpa using hlt⟩
    simp only [Bool.toNat_false, Nat.sub_zero] at hz hlt ⊢
    unfold vv at hz
    rw [if_neg (by decide)] at hz
    have e : ((x : Nat) : Int) % ((2 ^ (n * 8) : Nat) : Int) = ((x % 2 ^ (n * 8) : Nat) : Int) := rfl
    rw [e, Nat.mod_eq_of_lt (by omega)] at hz
    exact (Int.ofNat.inj hz).symm
  | true =>
    right
    simp only [Bool.toNat_true] at hz hlt hb
    refine ⟨rfl, ?_, hb, by omega⟩
    show fld true (x - 1) 0 (n * 8) = _
    unfold vv at hz
    rw [if_pos rfl] at hz
    have e : -((((x - 1 : Nat) : Int)) + 1) = (((2 ^ (n * 8) - x : Nat)) : Int) + ((2 ^ (n * 8) : Nat) : Int) * (-1) := by omega
    rw [e, Int.add_mul_emod_self_left] at hz
    have e2 : (((2 ^ (n * 8) - x : Nat)) : Int) % ((2 ^ (n * 8) : Nat) : Int) = (((2 ^ (n * 8) - x) % 2 ^ (n * 8) : Nat) : Int) := rfl
    have hpos : 0 < 2 ^ (n * 8 - 1) := Nat.two_pow_pos _
    rw [e2, Nat.mod_eq_of_lt (by omega)] at hz
    rw [h256]
    exact (Int.ofNat.inj hz).symm
theorem zfj {b : Bool} {x n : Nat} (bg : Bool) (h1 : 1 ≤ n) (hb : b.toNat ≤ x) (hroom : bl (x - b.toNat) ≤ n * 8 - 1) : G.ka bg true (G.qbb bg (G.leB n (fld b (x - b.toNat) 0 (n * 8)))) = Q6.whole b x := by
  have h256 : 256 ^ n = 2 ^ (n * 8) := by rw [Nat.mul_comm, zjh]
  have hp : 2 ^ (n * 8) = 2 * 2 ^ (n * 8 - 1) := by rw [← Nat.pow_succ']; congr 1; omega
  have hpos : 0 < 2 ^ (n * 8 - 1) := Nat.two_pow_pos _
  have hlen : (G.qbb bg (G.leB n (fld b (x - b.toNat) 0 (n * 8)))).length = n := by rw [G.zjg, G.qbc]
  unfold G.ka
  rw [hlen, G.jab]
  have htop := zzh (l := G.leB n (fld b (x - b.toNat) 0 (n * 8))) (G.qbc _ _) h1
  rcases znb h1 hb hroom with ⟨rfl, hF, hx⟩ | ⟨rfl, hF, hx1, hx2⟩
  · rw [hF] at htop ⊢
    have hN : G.leN (G.leB n x) = x := G.qwb n x (by omega)
    rw [hN] at htop ⊢
    have hbl : bl x ≤ n * 8 - 1 := bl_le.2 hx
    rw [if_neg (fun k => by have := htop.2 k.2; omega)]
  · rw [hF] at htop ⊢
    have hN : G.leN (G.leB n (256 ^ n - x)) = 256 ^ n - x := G.qwb n _ (by omega)
    rw [hN] at htop ⊢
    have hbl : bl (256 ^ n - x) = 8 * n := by
      have h4 := bl_eq (x := 256 ^ n - x) (n := n * 8 - 1) (by omega) (by rw [show n * 8 - 1 + 1 = n * 8 from by omega]; omega)
      omega
    rw [if_pos ⟨rfl, htop.1 hbl⟩, show 256 ^ n - (256 ^ n - x) = x from by omega]
set_option maxRecDepth 100000
theorem WnD_isS_26 : IsS Tryz.prog 26 6 := ⟨⟨_, Tryz.underlying26⟩, by kernel_rfl⟩
theorem zva {w : World} {sp : Option Addr} {cp : Nat} {p : List UInt8} (hp : G.Rb w sp p) (hl1 : 1 ≤ p.length) (hl64 : p.length ≤ 64) (bg : Bool) : Calls Tryz.prog 29 #[.agg #[.int .i64 ((p.length : Nat) : Int), .bool bg, .bool true], .slice sp p.length cp] w (AnsV w (G.ka bg true p)) := by
 cases bg
 ·
  exact G.ue hp hl1 hl64
 ·
  exact G.uu hp hl1 hl64
theorem get_okT {w : World} {so : Option Addr} {ca : Nat} {l : List UInt8} (hb : G.Rb w so l) (hca : l.length ≤ ca) (hl : l.length ≤ 140737488351232) {an nn : Nat} (hn1 : 1 ≤ nn) (hn64 : nn ≤ 64) (hle : an + nn ≤ l.length) (bg : Bool) : Calls Tryz.prog 8 #[.slice so l.length ca, .int .i64 ((an : Nat) : Int), .int .i64 ((nn : Nat) : Int), .bool bg, .bool true] w (AnsN w (G.ka bg true ((l.drop an).take nn), 0)) := by
 have hpl : ((l.drop an).take nn).length = nn := by rw [List.length_take, List.length_drop]; omega
 have hk1 : G.yg ((nn : Nat) : Int) = true := by unfold G.yg; apply decide_eq_true; omega
 have hk2 : G.inB l.length ((an : Nat) : Int) ((nn : Nat) : Int) = true := by unfold G.inB; apply decide_eq_true; omega
 have V : St w w [] [] [] := St.start w
 refine qy (l := [(0, .slice so l.length ca), (1, .int .i64 (((an : Nat) : Int))), (2, .int .i64 (((nn : Nat) : Int))), (3, .bool bg), (4, .bool true)]) Tryz.func8 rfl Tryz.ntmps8 rfl rfl ?_
 intro Q hret hnorm hP a A
 refine wsk fun K1 hK1 => wrl (qn (vs := [.bool false, .slice none 0 0, .slice none 0 0, .bool false, .slice none 0 0, .slice none 0 0]) (t := 26) A V rfl rfl rfl pg (ql (z := .agg #[.bool false, .slice none 0 0, .slice none 0 0, .bool false, .slice none 0 0, .slice none 0 0]) (by kernel_rfl) rfl) rfl ?_)
 intro g2 w3 V a A
 refine sda A λa A↦?_
 refine qa (hK1 _ _ (wsk fun K4 hK4 => wrl ?_))
 iterate 3 refine sdm A λa A↦?_
 refine sdo (v := .agg #[.int .i64 (((nn : Nat) : Int)), .bool bg, .bool true]) A (za rfl (fun w => by kernel_rfl)) λa A↦?_
 refine qn (vs := [.int .i64 0, .bool false, .bool false]) (t := 65) A V rfl rfl rfl pg (ql (z := .agg #[.int .i64 0, .bool false, .bool false]) (by kernel_rfl) rfl) rfl ?_
 intro g5 w6 V a A
 refine qr (us := [.int .i64 (((nn : Nat) : Int)), .bool bg, .bool true]) A V rfl rfl (qi rfl rfl rfl (by kernel_rfl) V 0 rfl rfl rfl) 0 rfl rfl rfl rfl ?_
 intro w7 V
 refine qa (hK4 _ _ (wsk fun K8 hK8 => wsk fun K9 hK9 => wrl (sdo A (qk V GvB_isS_65 rfl 0 rfl (cs := [.int .i64 (((nn : Nat) : Int)), .bool bg, .bool true]) rfl rfl) λa A↦?_)))
 refine qg A rfl rfl rfl (qb  rfl rfl (fun w => by kernel_rfl)) ((hk1 ▸ G.qla (size := ((nn : Nat) : Int)) (bg := bg) (sg := true))) ?_
 rintro _ w11 ⟨rfl, hb10⟩
 replace V := V.call hb10
 refine ⟨_, rfl, ?_⟩
 intro a A
 refine sdo (v := .bool false) A (zk rfl zv) λa A↦?_
 iterate 4 refine sdm A λa A↦?_
 refine qg A rfl rfl rfl (qb  rfl rfl (fun w => by kernel_rfl)) (G.qsc hl (by omega) (by omega) (by omega) (by omega) hk2) ?_
 rintro _ w13 ⟨rfl, hb12⟩
 replace V := V.call hb12
 refine ⟨_, rfl, ?_⟩
 intro a A
 refine sdo (v := .bool false) A (zk rfl zv) λa A↦?_
 refine sdk (v := .bool false) A λa A↦?_
 refine qa (hK9 _ _ (wp_cond_false (A.ev rfl) ?_))
 refine wp_skip (hK8 _ _ (wsk fun K14 hK14 => jc (S := fun w1 => St w w1 [(g5, [.int .i64 (((nn : Nat) : Int)), .bool bg, .bool true])] [] []) (by kernel_rfl) ?_))
 replace V := V.drew
 refine qh A 0 rfl rfl rfl rfl hP (V.partD (.cons_cons _ (.cons _ .slnil)) 0 rfl (.refl _)) (fun w1 V => qk V GvB_isS_65 rfl 0 rfl (cs := [.int .i64 (((nn : Nat) : Int)), .bool bg, .bool true]) rfl rfl) λa A↦?_
 refine qh A 1 rfl rfl rfl rfl hP (V.partD (.cons_cons _ (.cons _ .slnil)) 0 rfl (.refl _)) (fun w1 V => qz rfl) λa A↦?_
 refine qh A 2 rfl rfl rfl rfl hP (V.partD (.cons_cons _ (.cons _ .slnil)) 0 rfl (.refl _)) (fun w1 V => qz rfl) λa A↦?_
 refine qh A 3 rfl rfl rfl rfl hP (V.partD (.cons_cons _ (.cons _ .slnil)) 0 rfl (.refl _)) (fun w1 V => qz rfl) λa A↦?_
 refine qh A 4 rfl rfl rfl rfl hP (V.partD (.cons_cons _ (.cons _ .slnil)) 0 rfl (.refl _)) (fun w1 V => qz rfl) λa A↦?_
 refine qh (v := .int .i64 (((an + nn : Nat) : Int))) A 5 rfl rfl rfl rfl hP (V.partD (.cons_cons _ (.cons _ .slnil)) 0 rfl (.refl _)) (fun w1 V => qe rfl rfl (fun w => (qea (uk (by omega) (by omega)) w).trans (by rw [show (((an : Nat) : Int) + ((nn : Nat) : Int) : Int) = ((an + nn : Nat) : Int) from by omega]))) λa A↦?_
 refine qh (v := .slice ((G.qib so ca an)) nn ((ca - an))) A 6 rfl rfl rfl rfl hP (V.partD (.cons_cons _ (.cons _ .slnil)) 0 rfl (.refl _)) (fun w1 V => zug (lo := an) (hi := an + nn) Tryz.underlying31 (by kernel_rfl) rfl rfl rfl (by first | rfl | omega) (by first | rfl | omega) (by omega) (by omega) (by omega)) λa A↦?_
 refine qt (by kernel_rfl) (zf A 7 rfl rfl rfl rfl (qb  rfl rfl (fun w => by kernel_rfl)) ((by have h9 := zva (w := w13.drew) (p := ((l.drop an).take nn)) (((hb.drop ca an hca).takeZ nn).below V.bel) (cp := ca - an) (by omega) (by omega) bg; rw [hpl] at h9; exact h9)) ?_)
 rintro _ w18 ⟨p15_1, p15_c1, p15_2, p15_c2, p15_3, p15_c3, p15_4, p15_c4, rfl, hn16, hb17⟩
 replace V := V.call hb17
 replace V := V.addR hn16.s1.rd
 replace V := V.addR hn16.s2.rd
 replace V := V.addR hn16.s3.rd
 replace V := V.addR hn16.s4.rd
 refine ⟨_, rfl, (V.partD (.cons_cons _ (.cons _ .slnil)) 4 rfl (.refl _)), ?_⟩
 intro a A
 refine qt (by kernel_rfl) (zp (us := [.bool ((G.ka bg true ((l.drop an).take nn)).b1), .slice p15_1 (((G.ka bg true ((l.drop an).take nn)).t1).length) p15_c1, .slice p15_2 (((G.ka bg true ((l.drop an).take nn)).q1).length) p15_c2, .bool ((G.ka bg true ((l.drop an).take nn)).b2), .slice p15_3 (((G.ka bg true ((l.drop an).take nn)).t2).length) p15_c3, .slice p15_4 (((G.ka bg true ((l.drop an).take nn)).q2).length) p15_c4]) A V 8 rfl rfl rfl (qi rfl rfl rfl (by kernel_rfl) V 1 rfl rfl rfl) 1 rfl rfl rfl rfl ?_)
 intro w19 V
 refine ⟨(V.partD (.cons_cons _ (.cons _ .slnil)) 4 rfl (.refl _)), ?_⟩
 refine qh A 9 rfl rfl rfl rfl hP (V.partD (.cons_cons _ (.cons _ .slnil)) 4 rfl (.refl _)) (fun w1 V => zh rfl) λa A↦?_
 refine zn (by kernel_rfl) ?_
 refine hK14 _ _ (wp_ret (hret _ _ (en2 A rfl (qx V GvB_isS_26 rfl 1 rfl (cs := [.bool ((G.ka bg true ((l.drop an).take nn)).b1), .slice p15_1 (((G.ka bg true ((l.drop an).take nn)).t1).length) p15_c1, .slice p15_2 (((G.ka bg true ((l.drop an).take nn)).q1).length) p15_c2, .bool ((G.ka bg true ((l.drop an).take nn)).b2), .slice p15_3 (((G.ka bg true ((l.drop an).take nn)).t2).length) p15_c3, .slice p15_4 (((G.ka bg true ((l.drop an).take nn)).q2).length) p15_c4]) rfl rfl) (qj rfl) ?_)))
 exact ⟨p15_1, p15_c1, p15_2, p15_c2, p15_3, p15_c3, p15_4, p15_c4, rfl, ⟨⟨(V.rd 3 rfl), hn16.s1.nil, hn16.s1.cap⟩, ⟨(V.rd 2 rfl), hn16.s2.nil, hn16.s2.cap⟩, ⟨(V.rd 1 rfl), hn16.s3.nil, hn16.s3.cap⟩, ⟨(V.rd 0 rfl), hn16.s4.nil, hn16.s4.cap⟩⟩, V.bel⟩

theorem zvb {w : World} {b : Bool} {x : Nat} {o1 o2 o3 o4 : Option Addr} {c1 c2 c3 c4 : Nat} (ha : Nm w (Q6.whole b x) o1 c1 o2 c2 o3 c3 o4 c4) (hx : (words x).length ≤ 512) (hb : b.toNat ≤ x) (hr : bl (x - b.toNat) ≤ 500) (bg : Bool) :
  ∃ p : List UInt8, p.length = 64 ∧ (∀ W so ca, G.Rb W so p → p.length ≤ ca → Calls Tryz.prog 8 #[.slice so p.length ca, .int .i64 0, .int .i64 64, .bool bg, .bool true] W (AnsN W (Q6.whole b x, 0))) ∧ ∀ W so ca, Below w.heap.size w W → G.Rb W so (List.replicate 64 0) → 64 ≤ ca → Calls Tryz.prog 7 #[.slice so 64 ca, .int .i64 0, .int .i64 64, .bool bg, .bool true, jx (Q6.whole b x) o1 c1 o2 c2 o3 c3 o4 c4] W (fun e w' => ∃ v, e = .returned (.tuple #[v, .int .i64 0]) ∧ G.Mg W w' [.row G.BY 1 v p.length (Lib.byteCells p)]) := by
 have hr2 : bl (x - b.toNat) ≤ 64 * 8 - 1 := by omega
 have hll : (List.replicate 64 (0 : UInt8)).length = 64 := List.length_replicate
 have hpl : (G.qbb bg (G.leB 64 (fld b (x - b.toNat) 0 (64 * 8)))).length = 64 := by rw [G.zjg, G.qbc]
 have hle : 0 + 64 ≤ (List.replicate 64 (0 : UInt8)).length := by rw [hll]; decide
 have hov : (G.ovl 0 (G.qbb bg (G.leB 64 (fld b (x - b.toNat) 0 (64 * 8)))) (List.replicate 64 0)).length = 64 := by rw [G.zjb (by rw [hpl]; exact hle)]; exact hll
 refine ⟨G.ovl 0 (G.qbb bg (G.leB 64 (fld b (x - b.toNat) 0 (64 * 8)))) (List.replicate 64 0), hov, ?_, fun W so ca hW hR hca => ?_⟩
 ·
  intro W so ca hR hca
  have h9 := jad (an := 0) hpl hle
  have h7 := get_okT (an := 0) (nn := 64) hR hca (by rw [hov]; decide) (by decide) (by decide) (by rw [hov]; decide) bg
  rw [h9, zfj bg (by decide) hb hr2] at h7
  exact h7
 ·
  have h8 := G.put_ok (an := 0) (n := 64) hR (by rw [hll]; exact hca) (by rw [hll]; decide) (by decide) (by decide) hle bg true hpl (fun W' hW' => G.qwc (G.yw (G.yw ha hW) hW') hx hb (by decide) (by decide) bg rfl rfl hr2)
  rw [hll] at h8
  exact h8
set_option maxHeartbeats 2000000 in
theorem zvc {w : World} {b : Bool} {x : Nat} {a1 a2 a3 a4 : Option Addr} {ac1 ac2 ac3 ac4 : Nat} (ha : Nm w (Q6.whole b x) a1 ac1 a2 ac2 a3 ac3 a4 ac4) (hx : (words x).length ≤ 512) (hb : b.toNat ≤ x) (bg : Bool) {n0 : Int} (e0 : vu (Q6.whole b x) = (n0, 0)) (hn0 : n0 ≤ 500) {F X2 X3 : Nat} (e1 : ky (Q6.whole b x) 0 100 = (Q6.whole false F, 0)) (e2 : vd (Q6.whole b x) (-100) = (Q6.whole b X2, 0)) (e3 : vd (Q6.whole b X2) 100 = (Q6.whole b X3, 0)) (e4 : kl (fun x y => x ||| y) (fun b c => b || c) (Q6.whole b X3) (Q6.whole false F) = (Q6.whole b x, 0)) (e5 : kr (Q6.whole b X3) (Q6.whole false F) = (Q6.whole b x, 0)) (l1 : (words F).length ≤ 512) (l2 : (words X2).length ≤ 512) (l3 : (words X3).length ≤ 512) {p : List UInt8} (hpl : p.length = 64) (hGet : ∀ W so ca, G.Rb W so p → p.length ≤ ca → Calls Tryz.prog 8 #[.slice so p.length ca, .int .i64 0, .int .i64 64, .bool bg, .bool true] W (AnsN W (Q6.whole b x, 0))) (hPut : ∀ W so ca, Below w.heap.size w W → G.Rb W so (List.replicate 64 0) → 64 ≤ ca → Calls Tryz.prog 7 #[.slice so 64 ca, .int .i64 0, .int .i64 64, .bool bg, .bool true, jx (Q6.whole b x) a1 ac1 a2 ac2 a3 ac3 a4 ac4] W (fun e w' => ∃ v, e = .returned (.tuple #[v, .int .i64 0]) ∧ G.Mg W w' [.row G.BY 1 v p.length (Lib.byteCells p)])) {tx : List UInt8} (htx : vj 16 (Q6.whole b x) = tx) (hrd : qbe tx 16 = (Q6.whole b x, 0)) (htl : tx.length ≤ 16384) (hs : je (Q6.whole b x) = true) (hwk : ∀ W, Below w.heap.size w W → Calls Tryz.prog 6 #[] W fun e w' => e = .returned (.bool true) ∧ Below W.heap.size W w') : Calls Tryz.prog 3 #[jx (Q6.whole b x) a1 ac1 a2 ac2 a3 ac3 a4 ac4, .bool bg] w fun e w' => e = .returned (.bool true) ∧ Below w.heap.size w w' := by
 have hl : LenQ (Q6.whole b x) := xq hx
 have V : St w w [] [(a4, [1]), (a3, []), (a2, [1]), (a1, words x)] [] := ((((St.start w).addR ha.s1.rd).addR ha.s2.rd).addR ha.s3.rd).addR ha.s4.rd
 refine qy (l := [(0, .agg #[.bool b, .slice a1 ((words x).length) ac1, .slice a2 1 ac2, .bool false, .slice a3 0 ac3, .slice a4 1 ac4]), (1, .bool bg)]) Tryz.func3 rfl Tryz.ntmps3 rfl rfl ?_
 intro Q hret hnorm hP a A
 refine wsk fun K1 hK1 => wrl (qn A V rfl rfl rfl pg (qw rfl rfl) rfl ?_)
 intro g2 w3 V a A
 refine sda A λa A↦?_
 refine qa (hK1 _ _ (wsk fun K4 hK4 => wrl (sdo A (qk V WnD_isS_26 rfl 0 rfl (cs := [.bool b, .slice a1 ((words x).length) ac1, .slice a2 1 ac2, .bool false, .slice a3 0 ac3, .slice a4 1 ac4]) rfl rfl) λa A↦?_)))
 refine qg A rfl rfl rfl (qb  rfl rfl (fun w => by kernel_rfl)) ((e0 ▸ qke (show Nm _ _ a1 ac1 a2 ac2 a3 ac3 a4 ac4 from ⟨⟨(V.rd 3 rfl), ha.s1.nil, ha.s1.cap⟩, ⟨(V.rd 2 rfl), ha.s2.nil, ha.s2.cap⟩, ⟨(V.rd 1 rfl), ha.s3.nil, ha.s3.cap⟩, ⟨(V.rd 0 rfl), ha.s4.nil, ha.s4.cap⟩⟩) hl)) ?_
 rintro _ w6 ⟨rfl, hb5⟩
 replace V := V.call hb5
 refine ⟨_, rfl, ?_⟩
 intro a A
 refine sdm A λa A↦?_
 iterate 2 refine sdo A (qm (vs := [.int .i64 n0, .int .i64 0]) rfl rfl) λa A↦?_
 iterate 2 refine sda A λa A↦?_
 refine qa (hK4 _ _ (wsk fun K7 hK7 => wsk fun K8 hK8 => wrl (qg A rfl rfl rfl (qb  rfl rfl (fun w => by kernel_rfl)) (hwk _ V.bel) ?_)))
 rintro _ w10 ⟨rfl, hb9⟩
 replace V := V.call hb9
 refine ⟨_, rfl, ?_⟩
 intro a A
 refine sdo (v := .bool false) A (zk rfl zv) λa A↦?_
 iterate 2 refine sdm A λa A↦?_
 refine sdo (v := .bool false) A (qe rfl rfl (fun w => by kernel_rfl)) λa A↦?_
 refine sdk (v := .bool false) A λa A↦?_
 iterate 2 refine sdm A λa A↦?_
 refine sdo (v := .bool false) A (qe rfl rfl (fun w => (ju w).trans (by rw [show (decide (500 < n0)) = false from (decide_eq_false (by omega))]))) λa A↦?_
 refine sdk (v := .bool false) A λa A↦?_
 refine qa (hK8 _ _ (wp_cond_false (A.ev rfl) ?_))
 refine wp_skip (hK7 _ _ (wsk fun K11 hK11 => jc (S := fun w1 => St w w1 [(g2, [.bool b, .slice a1 ((words x).length) ac1, .slice a2 1 ac2, .bool false, .slice a3 0 ac3, .slice a4 1 ac4])] [(a4, [1]), (a3, []), (a2, [1]), (a1, words x)] []) (by kernel_rfl) ?_))
 replace V := V.drew
 refine qh A 1 rfl rfl rfl rfl hP V (fun w1 V => qz rfl) λa A↦?_
 refine qh A 2 rfl rfl rfl rfl hP V (fun w1 V => qk V WnD_isS_26 rfl 0 rfl (cs := [.bool b, .slice a1 ((words x).length) ac1, .slice a2 1 ac2, .bool false, .slice a3 0 ac3, .slice a4 1 ac4]) rfl rfl) λa A↦?_
 refine qt (by kernel_rfl) (zna A V 0 rfl rfl rfl rfl rfl Tryz.underlying31 (by kernel_rfl) rfl rfl ?_)
 intro g12 w13 V hzg12
 refine ⟨V, ?_⟩
 intro a A
 refine qt (by kernel_rfl) (zf A 3 rfl rfl rfl rfl (qb  rfl rfl (fun w => by kernel_rfl)) ((hPut _ _ _ V.bel hzg12 (Nat.le_refl _))) ?_)
 rintro _ w18 ⟨v14, rfl, hM17⟩
 obtain ⟨so15, ca16, rfl⟩ := G.qpg (hM17.has 0 rfl)
 replace V := V.call hM17.bel
 refine ⟨_, rfl, V, ?_⟩
 intro a A
 refine qh A 4 rfl rfl rfl rfl hP V (fun w1 V => qz rfl) λa A↦?_
 refine qh (v := .slice so15 p.length ca16) A 5 rfl rfl rfl rfl hP V (fun w1 V => qm (vs := [.slice so15 p.length ca16, .int .i64 0]) rfl rfl) λa A↦?_
 refine qh (v := .int .i64 0) A 6 rfl rfl rfl rfl hP V (fun w1 V => qm (vs := [.slice so15 p.length ca16, .int .i64 0]) rfl rfl) λa A↦?_
 refine qh A 7 rfl rfl rfl rfl hP V (fun w1 V => zh rfl) λa A↦?_
 refine qh A 8 rfl rfl rfl rfl hP V (fun w1 V => zh rfl) λa A↦?_
 refine zn (by kernel_rfl) ?_
 refine hK11 _ _ (wsk fun K19 hK19 => ?_)
 have hWz20 : Below w.heap.size w w18 := V.bel
 have hFg2z20 : Blk w18 g2 [.bool b, .slice a1 ((words x).length) ac1, .slice a2 1 ac2, .bool false, .slice a3 0 ac3, .slice a4 1 ac4] := (V.own (g2, [.bool b, .slice a1 ((words x).length) ac1, .slice a2 1 ac2, .bool false, .slice a3 0 ac3, .slice a4 1 ac4]) (by simp)).2
 have hRz20 : G.Rb w18 so15 p := (G.ui (bs := p) hM17 0 rfl).1
 have hRcz20 := G.zze hM17 0 rfl
 clear V
 have V : St w18 w18 [] [] [] := St.start w18
 have haw : Nm w18 (Q6.whole b x) a1 ac1 a2 ac2 a3 ac3 a4 ac4 := G.yw ha hWz20
 refine wrl ?_
 iterate 2 refine sdm A λa A↦?_
 refine qg A rfl rfl rfl (qb  rfl rfl (fun w => by kernel_rfl)) (hGet _ _ _ (hRz20.below V.bel) hRcz20) ?_
 rintro _ w24 ⟨p21_1, p21_c1, p21_2, p21_c2, p21_3, p21_c3, p21_4, p21_c4, rfl, hn22, hb23⟩
 replace V := V.call hb23
 replace V := V.addR hn22.s1.rd
 replace V := V.addR hn22.s2.rd
 replace V := V.addR hn22.s3.rd
 replace V := V.addR hn22.s4.rd
 refine ⟨_, rfl, ?_⟩
 intro a A
 refine sdm A λa A↦?_
 iterate 2 refine sdo A (qm (vs := [.agg #[.bool b, .slice p21_1 ((words x).length) p21_c1, .slice p21_2 1 p21_c2, .bool false, .slice p21_3 0 p21_c3, .slice p21_4 1 p21_c4], .int .i64 0]) rfl rfl) λa A↦?_
 refine qn (vs := [.bool false, .slice none 0 0, .slice none 0 0, .bool false, .slice none 0 0, .slice none 0 0]) (t := 26) A V rfl rfl rfl pg (ql (z := .agg #[.bool false, .slice none 0 0, .slice none 0 0, .bool false, .slice none 0 0, .slice none 0 0]) (by kernel_rfl) rfl) rfl ?_
 intro g25 w26 V a A
 refine qr (us := [.bool b, .slice p21_1 ((words x).length) p21_c1, .slice p21_2 1 p21_c2, .bool false, .slice p21_3 0 p21_c3, .slice p21_4 1 p21_c4]) A V rfl rfl (qi rfl rfl rfl (by kernel_rfl) V 0 rfl rfl rfl) 0 rfl rfl rfl rfl ?_
 intro w27 V
 refine sda A λa A↦?_
 refine qa (hK19 _ _ (wsk fun K28 hK28 => wrl (sdo A (jk V hFg2z20 WnD_isS_26 rfl (cs := [.bool b, .slice a1 ((words x).length) ac1, .slice a2 1 ac2, .bool false, .slice a3 0 ac3, .slice a4 1 ac4]) rfl rfl) λa A↦?_)))
 refine qg A rfl rfl rfl (qb  rfl rfl (fun w => by kernel_rfl)) ((e1 ▸ zai (show Nm _ _ a1 ac1 a2 ac2 a3 ac3 a4 ac4 from ⟨⟨(haw.s1.rd.below V.bel), ha.s1.nil, ha.s1.cap⟩, ⟨(haw.s2.rd.below V.bel), ha.s2.nil, ha.s2.cap⟩, ⟨(haw.s3.rd.below V.bel), ha.s3.nil, ha.s3.cap⟩, ⟨(haw.s4.rd.below V.bel), ha.s4.nil, ha.s4.cap⟩⟩) hl)) ?_
 rintro _ w32 ⟨p29_1, p29_c1, p29_2, p29_c2, p29_3, p29_c3, p29_4, p29_c4, rfl, hn30, hb31⟩
 replace V := V.call hb31
 replace V := V.addR hn30.s1.rd
 replace V := V.addR hn30.s2.rd
 replace V := V.addR hn30.s3.rd
 replace V := V.addR hn30.s4.rd
 refine ⟨_, rfl, ?_⟩
 intro a A
 refine sdm A λa A↦?_
 iterate 2 refine sdo A (qm (vs := [.agg #[.bool false, .slice p29_1 ((words F).length) p29_c1, .slice p29_2 1 p29_c2, .bool false, .slice p29_3 0 p29_c3, .slice p29_4 1 p29_c4], .int .i64 0]) rfl rfl) λa A↦?_
 refine qn (vs := [.bool false, .slice none 0 0, .slice none 0 0, .bool false, .slice none 0 0, .slice none 0 0]) (t := 26) A V rfl rfl rfl pg (ql (z := .agg #[.bool false, .slice none 0 0, .slice none 0 0, .bool false, .slice none 0 0, .slice none 0 0]) (by kernel_rfl) rfl) rfl ?_
 intro g33 w34 V a A
 refine qr (us := [.bool false, .slice p29_1 ((words F).length) p29_c1, .slice p29_2 1 p29_c2, .bool false, .slice p29_3 0 p29_c3, .slice p29_4 1 p29_c4]) A V rfl rfl (qi rfl rfl rfl (by kernel_rfl) V 0 rfl rfl rfl) 0 rfl rfl rfl rfl ?_
 intro w35 V
 refine sda A λa A↦?_
 refine qa (hK28 _ _ (wsk fun K36 hK36 => wrl (sdo A (jk V hFg2z20 WnD_isS_26 rfl (cs := [.bool b, .slice a1 ((words x).length) ac1, .slice a2 1 ac2, .bool false, .slice a3 0 ac3, .slice a4 1 ac4]) rfl rfl) λa A↦?_)))
 refine qg A rfl rfl rfl (qb  rfl rfl (fun w => by kernel_rfl)) ((e2 ▸ qna (show Nm _ _ a1 ac1 a2 ac2 a3 ac3 a4 ac4 from ⟨⟨(haw.s1.rd.below V.bel), ha.s1.nil, ha.s1.cap⟩, ⟨(haw.s2.rd.below V.bel), ha.s2.nil, ha.s2.cap⟩, ⟨(haw.s3.rd.below V.bel), ha.s3.nil, ha.s3.cap⟩, ⟨(haw.s4.rd.below V.bel), ha.s4.nil, ha.s4.cap⟩⟩) hl)) ?_
 rintro _ w40 ⟨p37_1, p37_c1, p37_2, p37_c2, p37_3, p37_c3, p37_4, p37_c4, rfl, hn38, hb39⟩
 replace V := V.call hb39
 replace V := V.addR hn38.s1.rd
 replace V := V.addR hn38.s2.rd
 replace V := V.addR hn38.s3.rd
 replace V := V.addR hn38.s4.rd
 refine ⟨_, rfl, ?_⟩
 intro a A
 refine sdm A λa A↦?_
 iterate 2 refine sdo A (qm (vs := [.agg #[.bool b, .slice p37_1 ((words X2).length) p37_c1, .slice p37_2 1 p37_c2, .bool false, .slice p37_3 0 p37_c3, .slice p37_4 1 p37_c4], .int .i64 0]) rfl rfl) λa A↦?_
 refine qn (vs := [.bool false, .slice none 0 0, .slice none 0 0, .bool false, .slice none 0 0, .slice none 0 0]) (t := 26) A V rfl rfl rfl pg (ql (z := .agg #[.bool false, .slice none 0 0, .slice none 0 0, .bool false, .slice none 0 0, .slice none 0 0]) (by kernel_rfl) rfl) rfl ?_
 intro g41 w42 V a A
 refine qr (us := [.bool b, .slice p37_1 ((words X2).length) p37_c1, .slice p37_2 1 p37_c2, .bool false, .slice p37_3 0 p37_c3, .slice p37_4 1 p37_c4]) A V rfl rfl (qi rfl rfl rfl (by kernel_rfl) V 0 rfl rfl rfl) 0 rfl rfl rfl rfl ?_
 intro w43 V
 refine sda A λa A↦?_
 refine qa (hK36 _ _ (wsk fun K44 hK44 => wrl (sdo A (qk V WnD_isS_26 rfl 0 rfl (cs := [.bool b, .slice p37_1 ((words X2).length) p37_c1, .slice p37_2 1 p37_c2, .bool false, .slice p37_3 0 p37_c3, .slice p37_4 1 p37_c4]) rfl rfl) λa A↦?_)))
 refine qg A rfl rfl rfl (qb  rfl rfl (fun w => by kernel_rfl)) ((e3 ▸ qna (show Nm _ _ p37_1 p37_c1 p37_2 p37_c2 p37_3 p37_c3 p37_4 p37_c4 from ⟨⟨(V.rd 3 rfl), hn38.s1.nil, hn38.s1.cap⟩, ⟨(V.rd 2 rfl), hn38.s2.nil, hn38.s2.cap⟩, ⟨(V.rd 1 rfl), hn38.s3.nil, hn38.s3.cap⟩, ⟨(V.rd 0 rfl), hn38.s4.nil, hn38.s4.cap⟩⟩) (xq l2))) ?_
 rintro _ w48 ⟨p45_1, p45_c1, p45_2, p45_c2, p45_3, p45_c3, p45_4, p45_c4, rfl, hn46, hb47⟩
 replace V := V.call hb47
 replace V := V.addR hn46.s1.rd
 replace V := V.addR hn46.s2.rd
 replace V := V.addR hn46.s3.rd
 replace V := V.addR hn46.s4.rd
 refine ⟨_, rfl, ?_⟩
 intro a A
 refine sdm A λa A↦?_
 iterate 2 refine sdo A (qm (vs := [.agg #[.bool b, .slice p45_1 ((words X3).length) p45_c1, .slice p45_2 1 p45_c2, .bool false, .slice p45_3 0 p45_c3, .slice p45_4 1 p45_c4], .int .i64 0]) rfl rfl) λa A↦?_
 refine qn (vs := [.bool false, .slice none 0 0, .slice none 0 0, .bool false, .slice none 0 0, .slice none 0 0]) (t := 26) A V rfl rfl rfl pg (ql (z := .agg #[.bool false, .slice none 0 0, .slice none 0 0, .bool false, .slice none 0 0, .slice none 0 0]) (by kernel_rfl) rfl) rfl ?_
 intro g49 w50 V a A
 refine qr (us := [.bool b, .slice p45_1 ((words X3).length) p45_c1, .slice p45_2 1 p45_c2, .bool false, .slice p45_3 0 p45_c3, .slice p45_4 1 p45_c4]) A V rfl rfl (qi rfl rfl rfl (by kernel_rfl) V 0 rfl rfl rfl) 0 rfl rfl rfl rfl ?_
 intro w51 V
 refine sda A λa A↦?_
 refine qa (hK44 _ _ (wsk fun K52 hK52 => wrl (sdo A (qk V WnD_isS_26 rfl 0 rfl (cs := [.bool b, .slice p45_1 ((words X3).length) p45_c1, .slice p45_2 1 p45_c2, .bool false, .slice p45_3 0 p45_c3, .slice p45_4 1 p45_c4]) rfl rfl) λa A↦?_)))
 refine sdo A (qk V WnD_isS_26 rfl 2 rfl (cs := [.bool false, .slice p29_1 ((words F).length) p29_c1, .slice p29_2 1 p29_c2, .bool false, .slice p29_3 0 p29_c3, .slice p29_4 1 p29_c4]) rfl rfl) λa A↦?_
 refine qg A rfl rfl rfl (qb  rfl rfl (fun w => by kernel_rfl)) ((e4 ▸ zwi (show Nm _ _ p45_1 p45_c1 p45_2 p45_c2 p45_3 p45_c3 p45_4 p45_c4 from ⟨⟨(V.rd 3 rfl), hn46.s1.nil, hn46.s1.cap⟩, ⟨(V.rd 2 rfl), hn46.s2.nil, hn46.s2.cap⟩, ⟨(V.rd 1 rfl), hn46.s3.nil, hn46.s3.cap⟩, ⟨(V.rd 0 rfl), hn46.s4.nil, hn46.s4.cap⟩⟩) (xq l3) (show Nm _ _ p29_1 p29_c1 p29_2 p29_c2 p29_3 p29_c3 p29_4 p29_c4 from ⟨⟨(V.rd 11 rfl), hn30.s1.nil, hn30.s1.cap⟩, ⟨(V.rd 10 rfl), hn30.s2.nil, hn30.s2.cap⟩, ⟨(V.rd 9 rfl), hn30.s3.nil, hn30.s3.cap⟩, ⟨(V.rd 8 rfl), hn30.s4.nil, hn30.s4.cap⟩⟩) (xq l1))) ?_
 rintro _ w56 ⟨p53_1, p53_c1, p53_2, p53_c2, p53_3, p53_c3, p53_4, p53_c4, rfl, hn54, hb55⟩
 replace V := V.call hb55
 replace V := V.addR hn54.s1.rd
 replace V := V.addR hn54.s2.rd
 replace V := V.addR hn54.s3.rd
 replace V := V.addR hn54.s4.rd
 refine ⟨_, rfl, ?_⟩
 intro a A
 refine sdm A λa A↦?_
 iterate 2 refine sdo A (qm (vs := [.agg #[.bool b, .slice p53_1 ((words x).length) p53_c1, .slice p53_2 1 p53_c2, .bool false, .slice p53_3 0 p53_c3, .slice p53_4 1 p53_c4], .int .i64 0]) rfl rfl) λa A↦?_
 refine qn (vs := [.bool false, .slice none 0 0, .slice none 0 0, .bool false, .slice none 0 0, .slice none 0 0]) (t := 26) A V rfl rfl rfl pg (ql (z := .agg #[.bool false, .slice none 0 0, .slice none 0 0, .bool false, .slice none 0 0, .slice none 0 0]) (by kernel_rfl) rfl) rfl ?_
 intro g57 w58 V a A
 refine qr (us := [.bool b, .slice p53_1 ((words x).length) p53_c1, .slice p53_2 1 p53_c2, .bool false, .slice p53_3 0 p53_c3, .slice p53_4 1 p53_c4]) A V rfl rfl (qi rfl rfl rfl (by kernel_rfl) V 0 rfl rfl rfl) 0 rfl rfl rfl rfl ?_
 intro w59 V
 refine sda A λa A↦?_
 refine qa (hK52 _ _ (wsk fun K60 hK60 => wrl (sdo A (qk V WnD_isS_26 rfl 1 rfl (cs := [.bool b, .slice p45_1 ((words X3).length) p45_c1, .slice p45_2 1 p45_c2, .bool false, .slice p45_3 0 p45_c3, .slice p45_4 1 p45_c4]) rfl rfl) λa A↦?_)))
 refine sdo A (qk V WnD_isS_26 rfl 3 rfl (cs := [.bool false, .slice p29_1 ((words F).length) p29_c1, .slice p29_2 1 p29_c2, .bool false, .slice p29_3 0 p29_c3, .slice p29_4 1 p29_c4]) rfl rfl) λa A↦?_
 refine qg A rfl rfl rfl (qb  rfl rfl (fun w => by kernel_rfl)) (addQ_as (show Nm _ _ p45_1 p45_c1 p45_2 p45_c2 p45_3 p45_c3 p45_4 p45_c4 from ⟨⟨(V.rd 7 rfl), hn46.s1.nil, hn46.s1.cap⟩, ⟨(V.rd 6 rfl), hn46.s2.nil, hn46.s2.cap⟩, ⟨(V.rd 5 rfl), hn46.s3.nil, hn46.s3.cap⟩, ⟨(V.rd 4 rfl), hn46.s4.nil, hn46.s4.cap⟩⟩) (xq l3) (show Nm _ _ p29_1 p29_c1 p29_2 p29_c2 p29_3 p29_c3 p29_4 p29_c4 from ⟨⟨(V.rd 15 rfl), hn30.s1.nil, hn30.s1.cap⟩, ⟨(V.rd 14 rfl), hn30.s2.nil, hn30.s2.cap⟩, ⟨(V.rd 13 rfl), hn30.s3.nil, hn30.s3.cap⟩, ⟨(V.rd 12 rfl), hn30.s4.nil, hn30.s4.cap⟩⟩) (xq l1) e5) ?_
 rintro _ w64 ⟨p61_1, p61_c1, p61_2, p61_c2, p61_3, p61_c3, p61_4, p61_c4, rfl, hn62, hb63⟩
 replace V := V.call hb63
 replace V := V.addR hn62.s1.rd
 replace V := V.addR hn62.s2.rd
 replace V := V.addR hn62.s3.rd
 replace V := V.addR hn62.s4.rd
 refine ⟨_, rfl, ?_⟩
 intro a A
 refine sdm A λa A↦?_
 iterate 2 refine sdo A (qm (vs := [.agg #[.bool b, .slice p61_1 ((words x).length) p61_c1, .slice p61_2 1 p61_c2, .bool false, .slice p61_3 0 p61_c3, .slice p61_4 1 p61_c4], .int .i64 0]) rfl rfl) λa A↦?_
 refine qn (vs := [.bool false, .slice none 0 0, .slice none 0 0, .bool false, .slice none 0 0, .slice none 0 0]) (t := 26) A V rfl rfl rfl pg (ql (z := .agg #[.bool false, .slice none 0 0, .slice none 0 0, .bool false, .slice none 0 0, .slice none 0 0]) (by kernel_rfl) rfl) rfl ?_
 intro g65 w66 V a A
 refine qr (us := [.bool b, .slice p61_1 ((words x).length) p61_c1, .slice p61_2 1 p61_c2, .bool false, .slice p61_3 0 p61_c3, .slice p61_4 1 p61_c4]) A V rfl rfl (qi rfl rfl rfl (by kernel_rfl) V 0 rfl rfl rfl) 0 rfl rfl rfl rfl ?_
 intro w67 V
 refine sda A λa A↦?_
 refine qa (hK60 _ _ (wsk fun K68 hK68 => wrl (sdo A (jk V hFg2z20 WnD_isS_26 rfl (cs := [.bool b, .slice a1 ((words x).length) ac1, .slice a2 1 ac2, .bool false, .slice a3 0 ac3, .slice a4 1 ac4]) rfl rfl) λa A↦?_)))
 refine qg A rfl rfl rfl (qb  rfl rfl (fun w => by kernel_rfl)) ((htx ▸ qte (r := 16) (show Nm _ _ a1 ac1 a2 ac2 a3 ac3 a4 ac4 from ⟨⟨(haw.s1.rd.below V.bel), ha.s1.nil, ha.s1.cap⟩, ⟨(haw.s2.rd.below V.bel), ha.s2.nil, ha.s2.cap⟩, ⟨(haw.s3.rd.below V.bel), ha.s3.nil, ha.s3.cap⟩, ⟨(haw.s4.rd.below V.bel), ha.s4.nil, ha.s4.cap⟩⟩) hl (.inr (.inr (.inr rfl))) hs)) ?_
 rintro _ w70 ⟨rfl, hb69⟩
 replace V := V.call hb69
 refine ⟨_, rfl, ?_⟩
 intro a A
 refine sdm A λa A↦?_
 iterate 2 refine sdo A (qm (vs := [.string (bsL tx), .int .i64 0]) rfl rfl) λa A↦?_
 iterate 2 refine sda A λa A↦?_
 refine qa (hK68 _ _ (wsk fun K71 hK71 => wrl (sdm A λa A↦?_)))
 refine qg A rfl rfl rfl (qb  rfl rfl (fun w => by kernel_rfl)) ((hrd ▸ qri (l := tx) (n := 16) (by omega))) ?_
 rintro _ w75 ⟨p72_1, p72_c1, p72_2, p72_c2, p72_3, p72_c3, p72_4, p72_c4, rfl, hn73, hb74⟩
 replace V := V.call hb74
 replace V := V.addR hn73.s1.rd
 replace V := V.addR hn73.s2.rd
 replace V := V.addR hn73.s3.rd
 replace V := V.addR hn73.s4.rd
 refine ⟨_, rfl, ?_⟩
 intro a A
 refine sdm A λa A↦?_
 iterate 2 refine sdo A (qm (vs := [.agg #[.bool b, .slice p72_1 ((words x).length) p72_c1, .slice p72_2 1 p72_c2, .bool false, .slice p72_3 0 p72_c3, .slice p72_4 1 p72_c4], .int .i64 0]) rfl rfl) λa A↦?_
 refine qn (vs := [.bool false, .slice none 0 0, .slice none 0 0, .bool false, .slice none 0 0, .slice none 0 0]) (t := 26) A V rfl rfl rfl pg (ql (z := .agg #[.bool false, .slice none 0 0, .slice none 0 0, .bool false, .slice none 0 0, .slice none 0 0]) (by kernel_rfl) rfl) rfl ?_
 intro g76 w77 V a A
 refine qr (us := [.bool b, .slice p72_1 ((words x).length) p72_c1, .slice p72_2 1 p72_c2, .bool false, .slice p72_3 0 p72_c3, .slice p72_4 1 p72_c4]) A V rfl rfl (qi rfl rfl rfl (by kernel_rfl) V 0 rfl rfl rfl) 0 rfl rfl rfl rfl ?_
 intro w78 V
 refine sda A λa A↦?_
 refine qa (hK71 _ _ (wsk fun K79 hK79 => wrl (sdm A λa A↦?_)))
 refine sdo (v := .bool true) A (qe rfl rfl (fun w => by kernel_rfl)) λa A↦?_
 iterate 2 refine sdm A λa A↦?_
 refine sdo (v := .bool true) A (qe rfl rfl (fun w => by kernel_rfl)) λa A↦?_
 refine sdk (v := .bool true) A λa A↦?_
 iterate 2 refine sdm A λa A↦?_
 refine sdo (v := .bool true) A (qe rfl rfl (fun w => by kernel_rfl)) λa A↦?_
 refine sdk (v := .bool true) A λa A↦?_
 iterate 2 refine sdm A λa A↦?_
 refine sdo (v := .bool true) A (qe rfl rfl (fun w => by kernel_rfl)) λa A↦?_
 refine sdk (v := .bool true) A λa A↦?_
 iterate 2 refine sdm A λa A↦?_
 refine sdo (v := .bool true) A (qe rfl rfl (fun w => by kernel_rfl)) λa A↦?_
 refine sdk (v := .bool true) A λa A↦?_
 iterate 2 refine sdm A λa A↦?_
 refine sdo (v := .bool true) A (qe rfl rfl (fun w => by kernel_rfl)) λa A↦?_
 refine sdk (v := .bool true) A λa A↦?_
 iterate 2 refine sdm A λa A↦?_
 refine sdo (v := .bool true) A (qe rfl rfl (fun w => by kernel_rfl)) λa A↦?_
 refine sdk (v := .bool true) A λa A↦?_
 iterate 2 refine sdm A λa A↦?_
 refine sdo (v := .bool true) A (qe rfl rfl (fun w => by kernel_rfl)) λa A↦?_
 refine sdk (v := .bool true) A λa A↦?_
 iterate 2 refine sdm A λa A↦?_
 refine sdo (v := .bool true) A (qe rfl rfl (fun w => by kernel_rfl)) λa A↦?_
 refine sdk (v := .bool true) A λa A↦?_
 refine sdm A λa A↦?_
 refine sdo A (qk V WnD_isS_26 rfl 6 rfl (cs := [.bool b, .slice p21_1 ((words x).length) p21_c1, .slice p21_2 1 p21_c2, .bool false, .slice p21_3 0 p21_c3, .slice p21_4 1 p21_c4]) rfl rfl) λa A↦?_
 refine sdo A (jk V hFg2z20 WnD_isS_26 rfl (cs := [.bool b, .slice a1 ((words x).length) ac1, .slice a2 1 ac2, .bool false, .slice a3 0 ac3, .slice a4 1 ac4]) rfl rfl) λa A↦?_
 refine qg A rfl rfl rfl (qb  rfl rfl (fun w => by kernel_rfl)) (qec (p := Q6.whole b x) (q := Q6.whole b x) (show Nm _ _ p21_1 p21_c1 p21_2 p21_c2 p21_3 p21_c3 p21_4 p21_c4 from ⟨⟨(V.rd 27 rfl), hn22.s1.nil, hn22.s1.cap⟩, ⟨(V.rd 26 rfl), hn22.s2.nil, hn22.s2.cap⟩, ⟨(V.rd 25 rfl), hn22.s3.nil, hn22.s3.cap⟩, ⟨(V.rd 24 rfl), hn22.s4.nil, hn22.s4.cap⟩⟩) hl (show Nm _ _ a1 ac1 a2 ac2 a3 ac3 a4 ac4 from ⟨⟨(haw.s1.rd.below V.bel), ha.s1.nil, ha.s1.cap⟩, ⟨(haw.s2.rd.below V.bel), ha.s2.nil, ha.s2.cap⟩, ⟨(haw.s3.rd.below V.bel), ha.s3.nil, ha.s3.cap⟩, ⟨(haw.s4.rd.below V.bel), ha.s4.nil, ha.s4.cap⟩⟩) hl (qaa hs)) ?_
 rintro _ w81 ⟨rfl, hb80⟩
 replace V := V.call hb80
 refine ⟨_, rfl, ?_⟩
 intro a A
 refine sdk (v := .bool true) A λa A↦?_
 refine sdm A λa A↦?_
 refine sdo A (qk V WnD_isS_26 rfl 2 rfl (cs := [.bool b, .slice p53_1 ((words x).length) p53_c1, .slice p53_2 1 p53_c2, .bool false, .slice p53_3 0 p53_c3, .slice p53_4 1 p53_c4]) rfl rfl) λa A↦?_
 refine sdo A (jk V hFg2z20 WnD_isS_26 rfl (cs := [.bool b, .slice a1 ((words x).length) ac1, .slice a2 1 ac2, .bool false, .slice a3 0 ac3, .slice a4 1 ac4]) rfl rfl) λa A↦?_
 refine qg A rfl rfl rfl (qb  rfl rfl (fun w => by kernel_rfl)) (qec (p := Q6.whole b x) (q := Q6.whole b x) (show Nm _ _ p53_1 p53_c1 p53_2 p53_c2 p53_3 p53_c3 p53_4 p53_c4 from ⟨⟨(V.rd 11 rfl), hn54.s1.nil, hn54.s1.cap⟩, ⟨(V.rd 10 rfl), hn54.s2.nil, hn54.s2.cap⟩, ⟨(V.rd 9 rfl), hn54.s3.nil, hn54.s3.cap⟩, ⟨(V.rd 8 rfl), hn54.s4.nil, hn54.s4.cap⟩⟩) hl (show Nm _ _ a1 ac1 a2 ac2 a3 ac3 a4 ac4 from ⟨⟨(haw.s1.rd.below V.bel), ha.s1.nil, ha.s1.cap⟩, ⟨(haw.s2.rd.below V.bel), ha.s2.nil, ha.s2.cap⟩, ⟨(haw.s3.rd.below V.bel), ha.s3.nil, ha.s3.cap⟩, ⟨(haw.s4.rd.below V.bel), ha.s4.nil, ha.s4.cap⟩⟩) hl (qaa hs)) ?_
 rintro _ w83 ⟨rfl, hb82⟩
 replace V := V.call hb82
 refine ⟨_, rfl, ?_⟩
 intro a A
 refine sdk (v := .bool true) A λa A↦?_
 refine sdm A λa A↦?_
 refine sdo A (qk V WnD_isS_26 rfl 1 rfl (cs := [.bool b, .slice p61_1 ((words x).length) p61_c1, .slice p61_2 1 p61_c2, .bool false, .slice p61_3 0 p61_c3, .slice p61_4 1 p61_c4]) rfl rfl) λa A↦?_
 refine sdo A (jk V hFg2z20 WnD_isS_26 rfl (cs := [.bool b, .slice a1 ((words x).length) ac1, .slice a2 1 ac2, .bool false, .slice a3 0 ac3, .slice a4 1 ac4]) rfl rfl) λa A↦?_
 refine qg A rfl rfl rfl (qb  rfl rfl (fun w => by kernel_rfl)) (qec (p := Q6.whole b x) (q := Q6.whole b x) (show Nm _ _ p61_1 p61_c1 p61_2 p61_c2 p61_3 p61_c3 p61_4 p61_c4 from ⟨⟨(V.rd 7 rfl), hn62.s1.nil, hn62.s1.cap⟩, ⟨(V.rd 6 rfl), hn62.s2.nil, hn62.s2.cap⟩, ⟨(V.rd 5 rfl), hn62.s3.nil, hn62.s3.cap⟩, ⟨(V.rd 4 rfl), hn62.s4.nil, hn62.s4.cap⟩⟩) hl (show Nm _ _ a1 ac1 a2 ac2 a3 ac3 a4 ac4 from ⟨⟨(haw.s1.rd.below V.bel), ha.s1.nil, ha.s1.cap⟩, ⟨(haw.s2.rd.below V.bel), ha.s2.nil, ha.s2.cap⟩, ⟨(haw.s3.rd.below V.bel), ha.s3.nil, ha.s3.cap⟩, ⟨(haw.s4.rd.below V.bel), ha.s4.nil, ha.s4.cap⟩⟩) hl (qaa hs)) ?_
 rintro _ w85 ⟨rfl, hb84⟩
 replace V := V.call hb84
 refine ⟨_, rfl, ?_⟩
 intro a A
 refine sdk (v := .bool true) A λa A↦?_
 refine sdm A λa A↦?_
 refine sdo A (qk V WnD_isS_26 rfl 0 rfl (cs := [.bool b, .slice p72_1 ((words x).length) p72_c1, .slice p72_2 1 p72_c2, .bool false, .slice p72_3 0 p72_c3, .slice p72_4 1 p72_c4]) rfl rfl) λa A↦?_
 refine sdo A (jk V hFg2z20 WnD_isS_26 rfl (cs := [.bool b, .slice a1 ((words x).length) ac1, .slice a2 1 ac2, .bool false, .slice a3 0 ac3, .slice a4 1 ac4]) rfl rfl) λa A↦?_
 refine qg A rfl rfl rfl (qb  rfl rfl (fun w => by kernel_rfl)) (qec (p := Q6.whole b x) (q := Q6.whole b x) (show Nm _ _ p72_1 p72_c1 p72_2 p72_c2 p72_3 p72_c3 p72_4 p72_c4 from ⟨⟨(V.rd 3 rfl), hn73.s1.nil, hn73.s1.cap⟩, ⟨(V.rd 2 rfl), hn73.s2.nil, hn73.s2.cap⟩, ⟨(V.rd 1 rfl), hn73.s3.nil, hn73.s3.cap⟩, ⟨(V.rd 0 rfl), hn73.s4.nil, hn73.s4.cap⟩⟩) hl (show Nm _ _ a1 ac1 a2 ac2 a3 ac3 a4 ac4 from ⟨⟨(haw.s1.rd.below V.bel), ha.s1.nil, ha.s1.cap⟩, ⟨(haw.s2.rd.below V.bel), ha.s2.nil, ha.s2.cap⟩, ⟨(haw.s3.rd.below V.bel), ha.s3.nil, ha.s3.cap⟩, ⟨(haw.s4.rd.below V.bel), ha.s4.nil, ha.s4.cap⟩⟩) hl (qaa hs)) ?_
 rintro _ w87 ⟨rfl, hb86⟩
 replace V := V.call hb86
 refine ⟨_, rfl, ?_⟩
 intro a A
 refine sdk (v := .bool true) A λa A↦?_
 refine sda A λa A↦?_
 refine qa (hK79 _ _ (wp_ret (hret _ _ (en1 A rfl (qj rfl) ?_))))
 exact ⟨rfl, (chain2 hWz20 V.bel)⟩
end Go.Proofs.YtjkpfnghiooblaaGreatDoor
namespace Go.Proofs.YtjkpfnghiooblaaGreatDoor.G
open Go.RowKit Go.Shelf
set_option linter.unusedVariables false
set_option linter.unusedSimpArgs false

theorem cc_used {w : World} {gw : Nat} (h0 : w.cell? ⟨gw, 0, none⟩ = some (.pointer (some ⟨gw, 0, none⟩))) : Calls Tryz.prog 108 #[.pointer (some ⟨gw, 0, none⟩)] w fun e w' => e = .returned (.tuple #[]) ∧ w' = w :=
  Any.Builder_copyCheck_used Tryz.lays240 Tryz.Builder_X72_240 gw w h0
set_option maxHeartbeats 1000000 in
set_option maxRecDepth 100000 in
theorem zvd {w : World} {gw : Nat} (h0 : w.cell? ⟨gw, 0, none⟩ = some (.pointer none)) (hsh : w.shape? gw = some (149, 3)) (hfz : w.frozen? ⟨gw, 0, none⟩ = false) : Calls Tryz.prog 108 #[.pointer (some ⟨gw, 0, none⟩)] w fun e w' => e = .returned (.tuple #[]) ∧ w' = w.setCell ⟨gw, 0, none⟩ (.pointer (some ⟨gw, 0, none⟩)) := by
  obtain ⟨j, hj, hjs⟩ := Option.map_eq_some_iff.1 Tryz.Builder_X72_240.sizeBuilder
  go_enter Tryz.func108, Tryz.ntmps108
  go_wp2
  rw [Lib.run_to_unsafe w ⟨gw, 0, none⟩ Tryz.underlying104 Tryz.underlying185 hj (by rw [hjs]; decide) hsh (Nat.zero_lt_succ 2)]
  simp only [Result.andThen]
  rw [Oper.upon_value]
  go_wp2
  rw [run_callFunc_extern Tryz.func152 (by kernel_rfl) (by kernel_rfl) (by kernel_rfl) (e := Extern.AbiNoEscape.same) (by kernel_rfl)]
  rw [Lib.run_noEscape]
  simp only [Result.andThen]
  rw [Oper.upon_value]
  go_wp2
  rw [Lib.run_from_unsafe w ⟨gw, 0, none⟩ Tryz.underlying185 Tryz.underlying104 hj hsh (by kernel_rfl)]
  simp only [Result.andThen]
  rw [Oper.upon_value]
  go_wp2
  go_end0
  exact ⟨rfl, rfl⟩
theorem cc_any {w0 w : World} {gw : Nat} {p v : Value} {pl : Bool} {L : List Ck} (hp : p = .pointer none ∨ p = .pointer (some ⟨gw, 0, none⟩)) (hM : Mg w0 w (.obj gw (.cells #[p, v, .bool pl] 149) :: L)) : Calls Tryz.prog 108 #[.pointer (some ⟨gw, 0, none⟩)] w fun e w' => e = .returned (.tuple #[]) ∧ Mg w0 w' (.obj gw (.cells #[.pointer (some ⟨gw, 0, none⟩), v, .bool pl] 149) :: L) := by
  have hc := hM.cell 0 (vs := [p, v, .bool pl]) rfl 0 rfl
  rcases hp with rfl | rfl
  · have hb := hM.obj 0 rfl
    refine (zvd hc (by simp [World.shape?, hb]) (hM.froz 0 (vs := [_, _, _]) rfl 0)).mono ?_
    rintro e w' ⟨rfl, rfl⟩
    exact ⟨rfl, hM.put 0 (vs := [_, v, .bool pl]) rfl 0 _⟩
  · refine (cc_used hc).mono ?_
    rintro e w' ⟨rfl, rfl⟩
    exact ⟨rfl, hM⟩
theorem zaj {B : Nat} {w0 w : World} (h : Below B w0 w) {g : Nat} (hg : B ≤ g) (n : Nat) : Below B w0 (w.freeze ⟨g, 0, none⟩ n) := Lib.below_freeze h (p := ⟨g, 0, none⟩) hg n
set_option maxHeartbeats 1000000 in
set_option maxRecDepth 100000 in
theorem str_pos {w : World} {B gw g cap : Nat} {p q : Value} {l : List UInt8} {cur : Array Value} (h0 : l ≠ []) (hbk : w.heap[gw]? = some (.cells #[p, .slice (some ⟨g, 0, none⟩) l.length cap, q] 149 (0, 0))) (hg : w.heap[g]? = some (.cells cur 5 (0, 0))) (hcap : l.length ≤ cap) (hmax : l.length ≤ 9223372036854775807) (hB : B ≤ g)
    (hcs : ∀ j x, l[j]? = some x → w.cell? ⟨g, j, none⟩ = some (.int .u8 ((x : UInt8).toNat : Nat))) (hsz : l.length ≤ cur.size) : Calls Tryz.prog 63 #[.pointer (some ⟨gw, 0, none⟩)] w fun e w' => e = .returned (.string ⟨l.toArray⟩) ∧ Below B w w' := by
  have hl0 : l.length ≠ 0 := by simpa using h0
  have mixed : Tryz.prog.follows .mixedOrders = true := by kernel_rfl
  have c1 : w.drew.cell? ⟨gw, 1, none⟩ = some (.slice (some ⟨g, 0, none⟩) l.length cap) := by
    have : w.drew.heap[gw]? = some (.cells #[p, .slice (some ⟨g, 0, none⟩) l.length cap, q] 149 (0, 0)) := hbk
    rw [Lib.cell_of_heap this]; rfl
  have hSD : (Builtin.unsafeSliceData_ #[31] 154 #[.slice (some ⟨g, 0, none⟩) l.length cap]).run Tryz.prog w.drew = .ok (.pointer (some ⟨g, 0, none⟩)) w.drew :=
    Lib.run_unsafeSliceData_row _ _ _ _ _ _ (by omega)
  have hUS : (Builtin.unsafeString_ #[154, 3] 9 #[.pointer (some ⟨g, 0, none⟩), .int .i64 l.length]).run Tryz.prog w.drew = .ok (.string ⟨l.toArray⟩) (w.drew.freeze ⟨g, 0, none⟩ l.length) :=
    Lib.run_unsafeString_row w.drew 154 3 9 5 Tryz.underlying154 (by kernel_rfl) g cur.size (by have hg' : w.drew.heap[g]? = some (.cells cur 5 (0, 0)) := hg; simp [World.shape?, hg']) l h0 (by omega) (by omega) (fun j x hx => by rw [xn, Nat.zero_add]; exact hcs j x hx)
  go_enter Tryz.func63, Tryz.ntmps63
  go_wp2
  go_region_o
  all_goals (go_wp2; go_ret; exact ⟨rfl, zaj (Below.drew (Below.refl B w)) hB _⟩)
/-- A text appended to a row of bytes: the row uj where it is, or lies in a new block. -/
theorem zba {P : Program} (w : World) (base : Nat) (t u ty e : TypeId) (i : TypeInfo) (ht : P.underlying t = some (.slice e)) (hu : P.underlying u = some .string) (hi : P.info? e = some i) (hz : i.zero = some (.int .u8 0)) (hsize : i.size = 1) (hby : i.bytes = 1)
    (v : Value) (n : Nat) (xs : List Value) (hown : w.ownsRow base e 1 v n xs) (s : ByteArray) (h63 : n + s.size ≤ 140737488355328) (hbase : base ≤ w.heap.size) :
    ∃ v' w', (Builtin.append_ #[t, u] ty #[v, .string s]).run P w = .ok v' w' ∧ w'.ownsRow base e 1 v' (n + s.size) (xs ++ Lib.strCells s) ∧ w.grownBy w' v.ownBlock ∧ (v'.ownBlock = v.ownBlock ∨ v'.ownBlock = some w.heap.size) := by
  obtain ⟨v', w', hr, h2, h3, h4⟩ := Lib.run_append_own_string (P := P) w base t u ty e i ht hu hi hz hsize hby v n xs hown s (by unfold maxLen; omega) h63 hbase
  refine ⟨v', w', hr, h2, h3, ?_⟩
  rcases hown.2 with ⟨rfl, rfl⟩ | ⟨g, cap, cur, rfl, hbg, hg, hnc, hcm, hcs, htake⟩
  · by_cases hm : s.size = 0
    · left; rw [h4.2 ⟨rfl, hm⟩]
    · right
      have hr2 := run_append_nil_string (P := P) w t u ty e i (.int .u8 0) ht hu hi hz s (by omega) (by omega) (by rw [hby]; omega)
      rw [hr] at hr2
      injection hr2 with e1 _
      rw [e1]; rfl
  · by_cases hroom : n + s.size ≤ cap
    · left
      have hr2 := Lib.run_append_room_string (P := P) w t u ty e i ht hu hi hsize g n cap cur hg s hroom (by simp at hcs; omega)
      rw [hr] at hr2
      injection hr2 with e1 _
      rw [e1]; rfl
    · right
      have hxl : xs.length = n := by simpa using hown.1
      have hr2 := Lib.run_append_grow_string (P := P) w t u ty e i (.int .u8 0) ht hu hi hz ⟨g, 0, none⟩ n cap xs (by rw [hsize]; simpa using hxl) (hown.cells (g := g) rfl) s (by omega) (by omega) (by rw [hby]; exact growslice_fits (by omega) (by omega))
      rw [hr] at hr2
      injection hr2 with e1 _
      rw [e1]; rfl
section
variable {P : Program} {w0 w : World} {L : List Ck} {l : List (Nat × Value)} {dst : Option Tmp} {ty : TypeId} {pos : String} {after : Array Edge} {guard : Option (Nat × Bool)} {v : Value}
theorem ap_move {w : World} {B : Nat} {e : TypeId} {v v' : Value} {n n' : Nat} {xs xs' : List Value} {d : Ck} (hd : d.holds B w) (hat : v'.ownBlock = v.ownBlock ∨ v'.ownBlock = some w.heap.size) (ha : Ap (.row e 1 v n xs) d) : Ap (.row e 1 v' n' xs') d := by
  have hl := Ck.lt hd
  have key : ∀ z, d.at_ = some z → v.ownBlock ≠ some z → v'.ownBlock ≠ some z := fun z hz hne e => by
    rcases hat with h | h
    · exact hne (h ▸ e)
    · rw [h] at e
      have := (hl z hz).2
      have e2 : w.heap.size = z := Option.some.inj e
      omega
  cases d with
  | obj g' o' => exact key g' rfl ha
  | row e' sz' v2 n2 xs2 =>
    by_cases hz : v2.ownBlock = none
    · by_cases hv : v'.ownBlock = none
      · exact .inl hv
      · exact .inr (fun e => hv (e.trans hz))
    · obtain ⟨z, hz⟩ := Option.ne_none_iff_exists'.1 hz
      right
      rw [hz]
      refine key z hz ?_
      rcases ha with ha | ha
      · rw [ha]; simp
      · exact fun e => ha (e.trans hz.symm)
  | bld b' bs' => exact ⟨ha.1, key b' rfl ha.2⟩
theorem zbb {t u : TypeId} {x y : Operand} (ht : P.underlying t = some (.slice BY)) (hu : P.underlying u = some .string) (hinfo : (P.info? BY).map (fun i => (i.zero, i.size, i.bytes)) = some (some (.int .u8 0), 1, 1)) (hM : Mg w0 w L) (k : Nat) {q : Nat} {xs : List Value} (hk : L[k]? = some (.row BY 1 v q xs)) (hx : ev l x = some v) {s : ByteArray} (hy : ev l y = some (.string s)) (hlen : q + s.size ≤ 140737488355328) :
    ∃ v' w', Does P l ⟨dst, .call ⟨.builtin .append, #[x, y], #[t, u]⟩, ty, pos, after, guard⟩ w v' w' ∧ Mg w0 w' (L.set k (.row BY 1 v' (q + s.size) (xs ++ Lib.strCells s))) := by
  obtain ⟨i, hi, hzz⟩ := Option.map_eq_some_iff.1 hinfo
  simp only [Prod.mk.injEq] at hzz
  obtain ⟨hz, hs, hb⟩ := hzz
  obtain ⟨v', w', hr, hown, hgr, hat⟩ := zba (P := P) w w0.heap.size t u ty BY i ht hu hi hz hs hb v q xs (hM.has k hk) s hlen hM.bel.size
  refine ⟨v', w', fun ρ h => ?_, hM.turn k hk (by simp) hgr hown (fun d hd ha => ap_move (hM.all d hd) hat ha)⟩
  simp [execOp, resolve, invoke, builtin, h x _ hx, h y _ hy, hr]
end
open Go.RowKit
/-- A number as it lies in a row of cells. -/
structure Nu where
  q : Q6
  o1 : Option Addr
  c1 : Nat
  o2 : Option Addr
  c2 : Nat
  o3 : Option Addr
  c3 : Nat
  o4 : Option Addr
  c4 : Nat
def Nu.nm (w : World) (y : Nu) : Prop := Nm w y.q y.o1 y.c1 y.o2 y.c2 y.o3 y.c3 y.o4 y.c4
theorem Nu.below {w w' : World} {y : Nu} (h : y.nm w) (hb : Below w.heap.size w w') : y.nm w' := ⟨h.s1.below hb, h.s2.below hb, h.s3.below hb, h.s4.below hb⟩
def Nu.val (y : Nu) : Value := jx y.q y.o1 y.c1 y.o2 y.c2 y.o3 y.c3 y.o4 y.c4
theorem yb {P : Program} {w : World} {l : List (Nat × Value)} {dst : Option Tmp} {ty : TypeId} {pos : String} {after : Array Edge} {guard : Option (Nat × Bool)} {x : Operand} {a : Addr} (hx : ev l x = some (.pointer (some a))) : Does P l ⟨dst, .nilCheck x, ty, pos, after, guard⟩ w (.pointer (some a)) w := fun ρ h => by
  simp only [execOp, h x _ hx, Sem.run_pure]
set_option maxRecDepth 100000
theorem TwA_is1_31 : Is1 Tryz.prog 31 := ⟨⟨_, Tryz.underlying31, rfl⟩, by kernel_rfl⟩
theorem TwA_fld_106_1 : FieldAt Tryz.prog 106 1 1 := ⟨_, _, Tryz.underlying106, rfl, rfl, by kernel_rfl⟩
theorem toW {w0 w : World} {a b : Ck} {X T : List Ck} (h : Mg w0 w (X ++ a :: b :: T)) : Mg w0 w (a :: b :: (X ++ T)) := h.perm (List.perm_middle.trans (.cons _ List.perm_middle))
theorem fromW {w0 w : World} {a b : Ck} {X T : List Ck} (h : Mg w0 w (a :: b :: (X ++ T))) : Mg w0 w (X ++ a :: b :: T) := h.perm ((List.perm_middle.trans (.cons _ List.perm_middle)).symm)
theorem znc (s : ByteArray) : Lib.strCells s = Lib.byteCells s.data.toList := rfl
theorem row_str {bs : List UInt8} {s : ByteArray} : bs.length + s.size = (bs ++ s.data.toList).length := by rw [List.length_append, qkj]
theorem zve {w0 w : World} {gw : Nat} {p v : Value} {pl : Bool} {bs : List UInt8} {T : List Ck} (hp : p = .pointer none ∨ p = .pointer (some ⟨gw, 0, none⟩)) (hM0 : Mg w0 w (.obj gw (.cells #[p, v, .bool pl] 149) :: .row BY 1 v bs.length (Lib.byteCells bs) :: T)) {s : ByteArray} (hroom : bs.length + s.size ≤ 140737488355328) : Calls Tryz.prog 136 #[.pointer (some ⟨gw, 0, none⟩), .string s] w fun e w' => e = .returned (.tuple #[.int .i64 ((s.size : Nat) : Int), .nilIface]) ∧ ∃ v', Mg w0 w' (.obj gw (.cells #[.pointer (some ⟨gw, 0, none⟩), v', .bool pl] 149) :: .row BY 1 v' (bs ++ s.data.toList).length (Lib.byteCells (bs ++ s.data.toList)) :: T) := by
 have M : Mg w0 w (.obj gw (.cells #[p, v, .bool pl] 149) :: .row BY 1 (v) bs.length ((Lib.byteCells bs)) :: T) := hM0
 refine qy (l := [(0, .pointer (some ⟨gw, 0, none⟩)), (1, .string s)]) Tryz.func136 rfl Tryz.ntmps136 rfl rfl ?_
 intro Q hret hnorm hP a A
 refine wsk fun K1 hK1 => wrl ?_
 iterate 2 refine sda A λa A↦?_
 refine qa (hK1 _ _ (wsk fun K2 hK2 => wrl (sdm A λa A↦?_)))
 refine qg A rfl rfl rfl (qb rfl rfl (fun w => by kernel_rfl)) (cc_any hp M) ?_
 rintro _ w3 ⟨rfl, hMc⟩
 replace M : Mg w0 w3 (.obj gw (.cells #[.pointer (some ⟨gw, 0, none⟩), v, .bool pl] 149) :: .row BY 1 (v) bs.length ((Lib.byteCells bs)) :: T) := hMc
 refine ⟨_, rfl, ?_⟩
 intro a A
 refine qa (hK2 _ _ (wsk fun K4 hK4 => wrl ?_))
 iterate 2 refine sdm A λa A↦?_
 refine sdo A (yb rfl) λa A↦?_
 refine sdo (v := .pointer (some ⟨gw, 1, none⟩)) A (qf TwA_fld_106_1 rfl rfl) λa A↦?_
 refine sdo A (zq M TwA_is1_31 rfl 0 rfl rfl) λa A↦?_
 refine sdm A λa A↦?_
 refine zsj (k := 1) (q := bs.length) (m := s.size) (xs := Lib.byteCells bs) (news := Lib.strCells s) (L' := fun v5 => (.obj gw (.cells #[.pointer (some ⟨gw, 0, none⟩), v, .bool pl] 149) :: .row BY 1 (v5) ((bs.length + s.size)) ((Lib.byteCells bs ++ Lib.strCells s)) :: T)) A rfl rfl rfl (zbb Tryz.underlying31 Tryz.underlying9 (by kernel_rfl) M 1 rfl rfl rfl hroom) (fun _ => rfl) ?_
 intro v5 w6 M a A
 obtain ⟨so7, ca8, rfl⟩ := qpg (M.has 1 rfl)
 refine sdo A (yb rfl) λa A↦?_
 refine sdo (v := .pointer (some ⟨gw, 1, none⟩)) A (qf TwA_fld_106_1 rfl rfl) λa A↦?_
 refine vk (us := [.pointer (some ⟨gw, 0, none⟩), .slice so7 (bs.length + s.size) ca8, .bool pl]) (L' := (.obj gw (.cells #[.pointer (some ⟨gw, 0, none⟩), .slice so7 (bs.length + s.size) ca8, .bool pl] 149) :: .row BY 1 (.slice so7 (bs.length + s.size) ca8) ((bs.length + s.size)) ((Lib.byteCells bs ++ Lib.strCells s)) :: T)) A M rfl rfl (xa rfl rfl rfl (by kernel_rfl) M 0 rfl rfl rfl) 0 rfl rfl rfl ?_
 intro w9 M
 refine qa (hK4 _ _ (wsk fun K10 hK10 => wrl (sdm A λa A↦?_)))
 refine sdo (v := .int .i64 (((s.size : Nat) : Int))) A (vr rfl (zii Tryz.underlying9)) λa A↦?_
 iterate 2 refine sda A λa A↦?_
 refine qa (hK10 _ _ (wp_ret (hret _ _ (en2 A rfl (qj rfl) (qj rfl) ?_))))
 refine ⟨rfl, .slice so7 (bs.length + s.size) ca8, ?_⟩
 rw [← row_str, Lib.byteCells_append, ← znc]
 exact M
theorem TwN_is1_22 : Is1 Tryz.prog 22 := ⟨⟨_, Tryz.underlying22, rfl⟩, by kernel_rfl⟩
theorem TwN_is1_3 : Is1 Tryz.prog 3 := ⟨⟨_, Tryz.underlying3, rfl⟩, by kernel_rfl⟩
theorem TwN_is1_31 : Is1 Tryz.prog 31 := ⟨⟨_, Tryz.underlying31, rfl⟩, by kernel_rfl⟩
theorem TwN_is1_4 : Is1 Tryz.prog 4 := ⟨⟨_, Tryz.underlying4, rfl⟩, by kernel_rfl⟩
theorem TwN_is1_44 : Is1 Tryz.prog 44 := ⟨⟨_, Tryz.underlying44, rfl⟩, by kernel_rfl⟩
theorem TwN_is1_9 : Is1 Tryz.prog 9 := ⟨⟨_, Tryz.underlying9, rfl⟩, by kernel_rfl⟩
theorem TwN_fld_149_0 : FieldAt Tryz.prog 149 0 0 := ⟨_, _, Tryz.underlying149, rfl, rfl, by kernel_rfl⟩
theorem TwN_fld_24_0 : FieldAt Tryz.prog 24 0 0 := ⟨_, _, Tryz.underlying24, rfl, rfl, by kernel_rfl⟩
theorem TwN_fld_24_1 : FieldAt Tryz.prog 24 1 1 := ⟨_, _, Tryz.underlying24, rfl, rfl, by kernel_rfl⟩
theorem TwN_fld_24_2 : FieldAt Tryz.prog 24 2 2 := ⟨_, _, Tryz.underlying24, rfl, rfl, by kernel_rfl⟩
theorem TwN_fld_26_0 : FieldAt Tryz.prog 26 0 0 := ⟨_, _, Tryz.underlying26, rfl, rfl, by kernel_rfl⟩
theorem TwN_fld_26_1 : FieldAt Tryz.prog 26 1 3 := ⟨_, _, Tryz.underlying26, rfl, rfl, by kernel_rfl⟩
theorem TwN_fld_49_0 : FieldAt Tryz.prog 49 0 0 := ⟨_, _, Tryz.underlying49, rfl, rfl, by kernel_rfl⟩
theorem TwN_fld_49_1 : FieldAt Tryz.prog 49 1 1 := ⟨_, _, Tryz.underlying49, rfl, rfl, by kernel_rfl⟩
theorem TwN_fld_49_2 : FieldAt Tryz.prog 49 2 2 := ⟨_, _, Tryz.underlying49, rfl, rfl, by kernel_rfl⟩
theorem TwN_fld_49_3 : FieldAt Tryz.prog 49 3 8 := ⟨_, _, Tryz.underlying49, rfl, rfl, by kernel_rfl⟩
theorem TwN_fld_49_4 : FieldAt Tryz.prog 49 4 9 := ⟨_, _, Tryz.underlying49, rfl, rfl, by kernel_rfl⟩
theorem TwN_fld_49_5 : FieldAt Tryz.prog 49 5 10 := ⟨_, _, Tryz.underlying49, rfl, rfl, by kernel_rfl⟩
theorem TwN_isS_24 : IsS Tryz.prog 24 3 := ⟨⟨_, Tryz.underlying24⟩, by kernel_rfl⟩
theorem TwN_isS_26 : IsS Tryz.prog 26 6 := ⟨⟨_, Tryz.underlying26⟩, by kernel_rfl⟩
theorem TwN_isS_49 : IsS Tryz.prog 49 11 := ⟨⟨_, Tryz.underlying49⟩, by kernel_rfl⟩
/-- The cells of a datum that is a number. -/
def Nu.cs (y : Nu) : List Value := [.int .i64 3, .int .i64 0, .bool y.q.b1, .slice y.o1 y.q.t1.length y.c1, .slice y.o2 y.q.q1.length y.c2, .bool y.q.b2, .slice y.o3 y.q.t2.length y.c3, .slice y.o4 y.q.q2.length y.c4, .string (⟨#[]⟩), .slice none 0 0, .slice none 0 0]
theorem nfitsAt {w0 w : World} {gd gl : Nat} {y : Nu} {T : List Ck} (hM0 : Mg w0 w (.obj gd (.cells y.cs.toArray 49) :: .obj gl (.cells #[.int .i64 20000] 3) :: T)) : Calls Tryz.prog 177 #[.pointer (some ⟨gd, 0, none⟩), .int .i64 1, .pointer (some ⟨gl, 0, none⟩)] w fun e w' => e = .returned (.bool true) ∧ Mg w0 w' (.obj gd (.cells y.cs.toArray 49) :: .obj gl (.cells #[.int .i64 19999] 3) :: T) := by
 have M : Mg w0 w (.obj gd (.cells y.cs.toArray 49) :: .obj gl (.cells #[.int .i64 20000] 3) :: T) := hM0
 refine qy (l := [(0, .pointer (some ⟨gd, 0, none⟩)), (1, .int .i64 1), (2, .pointer (some ⟨gl, 0, none⟩))]) Tryz.func177 rfl Tryz.ntmps177 rfl rfl ?_
 intro Q hret hnorm hP a A
 refine wsk fun K1 hK1 => wrl (sda A λa A↦?_)
 refine qa (hK1 _ _ (wsk fun K2 hK2 => wrl (sdm A λa A↦?_)))
 refine sdo A (yb rfl) λa A↦?_
 refine sdo A (zq M TwN_is1_3 rfl 1 rfl rfl) λa A↦?_
 refine sdo (v := .int .i64 19999) A (qe rfl rfl (fun w => by kernel_rfl)) λa A↦?_
 refine sdo A (yb rfl) λa A↦?_
 refine vk (us := [.int .i64 19999]) (L' := (.obj gd (.cells y.cs.toArray 49) :: .obj gl (.cells #[.int .i64 19999] 3) :: T)) A M rfl rfl (xa rfl rfl rfl (by kernel_rfl) M 1 rfl rfl rfl) 1 rfl rfl rfl ?_
 intro w3 M
 refine qa (hK2 _ _ (wsk fun K4 hK4 => wsk fun K5 hK5 => wrl (sdm A λa A↦?_)))
 refine sdo A (yb rfl) λa A↦?_
 refine sdo A (zq M TwN_is1_3 rfl 1 rfl rfl) λa A↦?_
 refine sdo (v := .bool false) A (qe rfl rfl (fun w => by kernel_rfl)) λa A↦?_
 iterate 2 refine sdm A λa A↦?_
 refine sdo (v := .bool false) A (qe rfl rfl (fun w => by kernel_rfl)) λa A↦?_
 refine sdk (v := .bool false) A λa A↦?_
 refine qa (hK5 _ _ (wp_cond_false (A.ev rfl) ?_))
 refine wp_skip (hK4 _ _ (wsk fun K6 hK6 => wsk fun K7 hK7 => wrl (sdm A λa A↦?_)))
 refine sdo A (yb rfl) λa A↦?_
 refine sdo (v := .pointer (some ⟨gd, 10, none⟩)) A (qf TwN_fld_49_5 rfl rfl) λa A↦?_
 refine sdo A (zq M TwN_is1_44 rfl 0 rfl rfl) λa A↦?_
 refine sdo A (zg Tryz.underlying44 rfl) λa A↦?_
 refine sdm A λa A↦?_
 refine qa (hK7 _ _ (wp_block (js (fun m_ a w1 => ∃ (i : Nat), m_ = 0 ∧ (i = 0) ∧ Sl a 53 [(0, .pointer (some ⟨gd, 0, none⟩)), (1, .int .i64 1), (2, .pointer (some ⟨gl, 0, none⟩)), (9, .pointer (some ⟨gl, 0, none⟩)), (10, .pointer (some ⟨gl, 0, none⟩)), (11, .int .i64 20000), (12, .int .i64 19999), (13, .pointer (some ⟨gl, 0, none⟩)), (14, .pointer (some ⟨gl, 0, none⟩)), (15, .pointer (some ⟨gl, 0, none⟩)), (16, .int .i64 19999), (17, .bool false), (18, .bool false), (19, .int .i64 1), (20, .bool false), (21, .bool false), (22, .pointer (some ⟨gd, 0, none⟩)), (23, .pointer (some ⟨gd, 0, none⟩)), (24, .pointer (some ⟨gd, 10, none⟩)), (25, .slice none 0 0), (26, .int .i64 0), (27, .int .i64 (((i : Nat) : Int)))] ∧ Mg w0 w1 (.obj gd (.cells y.cs.toArray 49) :: .obj gl (.cells #[.int .i64 19999] 3) :: T)) _ ⟨0, rfl, rfl, A.keep _ ⟨rfl, rfl, rfl, rfl, rfl, rfl, rfl, rfl, rfl, rfl, rfl, rfl, rfl, rfl, rfl, rfl, rfl, rfl, rfl, rfl, rfl, rfl, trivial⟩, M⟩ ?_)))
 clear M A
 rintro m_ a w8 ⟨i, rfl, hinv10, A, M⟩ K9 hK9
 have hi0 : i = 0 := hinv10
 refine wsk fun K11 hK11 => wrl (sdo (v := .bool false) A (qe rfl rfl (fun w => (zt w).trans (by rw [show (decide (((i : Nat) : Int) < 0)) = false from (decide_eq_false (by omega))]))) λa A↦?_)
 refine qa (hK11 _ _ (wsk fun K12 hK12 => wp_cond_false (A.ev rfl) ?_))
 refine wp_exit (hK6 _ _ (wsk fun K13 hK13 => wrl (sda A λa A↦?_)))
 refine qa (hK13 _ _ (wp_ret (hret _ _ (en1 A rfl (qj rfl) ?_))))
 exact ⟨rfl, M⟩
theorem nfits {w : World} {y : Nu} : Calls Tryz.prog 134 #[.agg y.cs.toArray] w fun e w' => e = .returned (.bool true) ∧ Below w.heap.size w w' := by
 have M : Mg w w ([]) := Mg.start w
 refine qy (l := [(0, .agg y.cs.toArray)]) Tryz.func134 rfl Tryz.ntmps134 rfl rfl ?_
 intro Q hret hnorm hP a A
 refine wsk fun K1 hK1 => wrl (xm (vs := [.int .i64 3, .int .i64 0, .bool y.q.b1, .slice y.o1 y.q.t1.length y.c1, .slice y.o2 y.q.q1.length y.c2, .bool y.q.b2, .slice y.o3 y.q.t2.length y.c3, .slice y.o4 y.q.q2.length y.c4, .string (⟨#[]⟩), .slice none 0 0, .slice none 0 0]) (t := 49) A M rfl rfl rfl pg (qw rfl rfl) (by decide) ?_)
 intro g2 w3 M a A
 refine sda A λa A↦?_
 refine qa (hK1 _ _ (wsk fun K4 hK4 => wrl (xm (vs := [.int .i64 0]) (t := 3) A M rfl rfl rfl pg (ql (z := .int .i64 0) (by kernel_rfl) rfl) (by decide) ?_)))
 intro g5 w6 M a A
 refine vk (us := [.int .i64 20000]) (L' := (.obj g5 (.cells #[.int .i64 20000] 3) :: .obj g2 (.cells y.cs.toArray 49) :: [])) A M rfl rfl (xa rfl rfl rfl (by kernel_rfl) M 0 rfl rfl rfl) 0 rfl rfl rfl ?_
 intro w7 M
 refine qa (hK4 _ _ (wsk fun K8 hK8 => wrl (qg A rfl rfl rfl (qb rfl rfl (fun w => by kernel_rfl)) (nfitsAt (M.perm (.swap _ _ _))) ?_)))
 rintro _ w10 ⟨rfl, hM9⟩
 replace M : Mg w w10 (.obj g2 (.cells y.cs.toArray 49) :: .obj g5 (.cells #[.int .i64 19999] 3) :: []) := hM9
 refine ⟨_, rfl, ?_⟩
 intro a A
 refine sda A λa A↦?_
 refine qa (hK8 _ _ (wp_ret (hret _ _ (en1 A rfl (qj rfl) ?_))))
 exact ⟨rfl, M.bel⟩
theorem qtf {w : World} : Calls Tryz.prog 244 #[.agg #[.bool false, .slice none 0 0, .slice none 0 0]] w fun e w' => e = .returned (.bool true) ∧ Below w.heap.size w w' := by
 have M : Mg w w ([]) := Mg.start w
 refine qy (l := [(0, .agg #[.bool false, .slice none 0 0, .slice none 0 0])]) Tryz.func244 rfl Tryz.ntmps244 rfl rfl ?_
 intro Q hret hnorm hP a A
 refine wsk fun K1 hK1 => wrl (xm (vs := [.bool false, .slice none 0 0, .slice none 0 0]) (t := 24) A M rfl rfl rfl pg (qw rfl rfl) (by decide) ?_)
 intro g2 w3 M a A
 refine sda A λa A↦?_
 refine qa (hK1 _ _ (wsk fun K4 hK4 => wrl (sdo (v := .pointer (some ⟨g2, 0, none⟩)) A (qf TwN_fld_24_0 rfl rfl) λa A↦?_)))
 refine sdo A (zq M TwN_is1_4 rfl 0 rfl rfl) λa A↦?_
 refine sdo (v := .bool true) A (zk rfl zv) λa A↦?_
 refine sdm A λa A↦?_
 refine sdo (v := .pointer (some ⟨g2, 1, none⟩)) A (qf TwN_fld_24_1 rfl rfl) λa A↦?_
 refine sdo A (zq M TwN_is1_22 rfl 0 rfl rfl) λa A↦?_
 refine sdo A (zg Tryz.underlying22 rfl) λa A↦?_
 refine sdo (v := .bool true) A (qe rfl rfl (fun w => by kernel_rfl)) λa A↦?_
 refine sdk (v := .bool true) A λa A↦?_
 refine sdm A λa A↦?_
 refine sdo (v := .pointer (some ⟨g2, 2, none⟩)) A (qf TwN_fld_24_2 rfl rfl) λa A↦?_
 refine sdo A (zq M TwN_is1_22 rfl 0 rfl rfl) λa A↦?_
 refine sdo A (zg Tryz.underlying22 rfl) λa A↦?_
 refine sdo (v := .bool true) A (qe rfl rfl (fun w => by kernel_rfl)) λa A↦?_
 refine sdk (v := .bool true) A λa A↦?_
 refine sda A λa A↦?_
 refine qa (hK4 _ _ (wp_ret (hret _ _ (en1 A rfl (qj rfl) ?_))))
 exact ⟨rfl, M.bel⟩
theorem nbare {w : World} : Calls Tryz.prog 221 #[.agg #[.int .i64 3, .int .i64 0, .bool false, .slice none 0 0, .slice none 0 0, .bool false, .slice none 0 0, .slice none 0 0, .string (⟨#[]⟩), .slice none 0 0, .slice none 0 0]] w fun e w' => e = .returned (.bool true) ∧ Below w.heap.size w w' := by
 have M : Mg w w ([]) := Mg.start w
 refine qy (l := [(0, .agg #[.int .i64 3, .int .i64 0, .bool false, .slice none 0 0, .slice none 0 0, .bool false, .slice none 0 0, .slice none 0 0, .string (⟨#[]⟩), .slice none 0 0, .slice none 0 0])]) Tryz.func221 rfl Tryz.ntmps221 rfl rfl ?_
 intro Q hret hnorm hP a A
 refine wsk fun K1 hK1 => wrl (xm (vs := [.int .i64 3, .int .i64 0, .bool false, .slice none 0 0, .slice none 0 0, .bool false, .slice none 0 0, .slice none 0 0, .string (⟨#[]⟩), .slice none 0 0, .slice none 0 0]) (t := 49) A M rfl rfl rfl pg (qw rfl rfl) (by decide) ?_)
 intro g2 w3 M a A
 refine sda A λa A↦?_
 refine qa (hK1 _ _ (wsk fun K4 hK4 => wrl (sdo (v := .pointer (some ⟨g2, 1, none⟩)) A (qf TwN_fld_49_1 rfl rfl) λa A↦?_)))
 refine sdo A (zq M TwN_is1_3 rfl 0 rfl rfl) λa A↦?_
 refine sdo (v := .bool true) A (qe rfl rfl (fun w => by kernel_rfl)) λa A↦?_
 refine sdm A λa A↦?_
 refine sdo (v := .pointer (some ⟨g2, 2, none⟩)) A (qf TwN_fld_49_2 rfl rfl) λa A↦?_
 refine sdo (v := .pointer (some ⟨g2, 2, none⟩)) A (qf TwN_fld_26_0 rfl rfl) λa A↦?_
 refine sdo A (jh M TwN_isS_24 rfl 0 rfl (cs := [.bool false, .slice none 0 0, .slice none 0 0]) rfl rfl) λa A↦?_
 refine qg A rfl rfl rfl (qb rfl rfl (fun w => by kernel_rfl)) (qtf) ?_
 rintro _ w6 ⟨rfl, hb5⟩
 replace M := M.call hb5
 refine ⟨_, rfl, ?_⟩
 intro a A
 refine sdk (v := .bool true) A λa A↦?_
 refine sdm A λa A↦?_
 refine sdo (v := .pointer (some ⟨g2, 2, none⟩)) A (qf TwN_fld_49_2 rfl rfl) λa A↦?_
 refine sdo (v := .pointer (some ⟨g2, 5, none⟩)) A (qf TwN_fld_26_1 rfl rfl) λa A↦?_
 refine sdo A (jh M TwN_isS_24 rfl 0 rfl (cs := [.bool false, .slice none 0 0, .slice none 0 0]) rfl rfl) λa A↦?_
 refine qg A rfl rfl rfl (qb rfl rfl (fun w => by kernel_rfl)) (qtf) ?_
 rintro _ w8 ⟨rfl, hb7⟩
 replace M := M.call hb7
 refine ⟨_, rfl, ?_⟩
 intro a A
 refine sdk (v := .bool true) A λa A↦?_
 refine sdm A λa A↦?_
 refine sdo (v := .pointer (some ⟨g2, 8, none⟩)) A (qf TwN_fld_49_3 rfl rfl) λa A↦?_
 refine sdo A (zq M TwN_is1_9 rfl 0 rfl rfl) λa A↦?_
 refine sdo (v := .bool true) A (qe rfl rfl (fun w => (qyb (a := ⟨#[]⟩) (b := ⟨#[]⟩) Tryz.underlying9 w).trans (by rw [decide_eq_true rfl]))) λa A↦?_
 refine sdk (v := .bool true) A λa A↦?_
 refine sdm A λa A↦?_
 refine sdo (v := .pointer (some ⟨g2, 9, none⟩)) A (qf TwN_fld_49_4 rfl rfl) λa A↦?_
 refine sdo A (zq M TwN_is1_31 rfl 0 rfl rfl) λa A↦?_
 refine sdo A (zg Tryz.underlying31 rfl) λa A↦?_
 refine sdo (v := .bool true) A (qe rfl rfl (fun w => by kernel_rfl)) λa A↦?_
 refine sdk (v := .bool true) A λa A↦?_
 refine sdm A λa A↦?_
 refine sdo (v := .pointer (some ⟨g2, 10, none⟩)) A (qf TwN_fld_49_5 rfl rfl) λa A↦?_
 refine sdo A (zq M TwN_is1_44 rfl 0 rfl rfl) λa A↦?_
 refine sdo A (zg Tryz.underlying44 rfl) λa A↦?_
 refine sdo (v := .bool true) A (qe rfl rfl (fun w => by kernel_rfl)) λa A↦?_
 refine sdk (v := .bool true) A λa A↦?_
 refine sda A λa A↦?_
 refine qa (hK4 _ _ (wp_ret (hret _ _ (en1 A rfl (qj rfl) ?_))))
 exact ⟨rfl, M.bel⟩
theorem nbyKind {w : World} {y : Nu} (hy : y.nm w) (hl : LenQ y.q) (hs : je y.q = true) : Calls Tryz.prog 178 #[.agg y.cs.toArray] w fun e w' => e = .returned (.bool true) ∧ Below w.heap.size w w' := by
 have M : Mg w w ([]) := Mg.start w
 refine qy (l := [(0, .agg y.cs.toArray)]) Tryz.func178 rfl Tryz.ntmps178 rfl rfl ?_
 intro Q hret hnorm hP a A
 refine wsk fun K1 hK1 => wrl (xm (vs := [.int .i64 3, .int .i64 0, .bool y.q.b1, .slice y.o1 y.q.t1.length y.c1, .slice y.o2 y.q.q1.length y.c2, .bool y.q.b2, .slice y.o3 y.q.t2.length y.c3, .slice y.o4 y.q.q2.length y.c4, .string (⟨#[]⟩), .slice none 0 0, .slice none 0 0]) (t := 49) A M rfl rfl rfl pg (qw rfl rfl) (by decide) ?_)
 intro g2 w3 M a A
 refine sda A λa A↦?_
 refine qa (hK1 _ _ (wsk fun K4 hK4 => wrl (sda A λa A↦?_)))
 refine qa (hK4 _ _ (wsk fun K5 hK5 => wsk fun K6 hK6 => wrl (sdo (v := .pointer (some ⟨g2, 0, none⟩)) A (qf TwN_fld_49_0 rfl rfl) λa A↦?_)))
 refine sdo A (zq M TwN_is1_3 rfl 0 rfl rfl) λa A↦?_
 refine qa (hK6 _ _ (wp_block (wsk fun K7 hK7 => wsk fun K8 hK8 => wrl (sdo (v := .bool false) A (qe rfl rfl (fun w => by kernel_rfl)) λa A↦?_))))
 refine sda A λa A↦?_
 refine qa (hK8 _ _ (wp_cond_false (A.ev rfl) ?_))
 refine wrl (sdo (v := .bool false) A (qe rfl rfl (fun w => by kernel_rfl)) λa A↦?_)
 refine sda A λa A↦?_
 refine qa (hK7 _ _ (wp_cond_false (A.ev rfl) ?_))
 refine wsk fun K9 hK9 => wrl (sdo (v := .bool false) A (qe rfl rfl (fun w => by kernel_rfl)) λa A↦?_)
 refine sda A λa A↦?_
 refine qa (hK9 _ _ (wp_cond_false (A.ev rfl) ?_))
 refine wsk fun K10 hK10 => wrl (sdo (v := .bool true) A (qe rfl rfl (fun w => by kernel_rfl)) λa A↦?_)
 refine sda A λa A↦?_
 refine qa (hK10 _ _ (wp_cond_true (A.ev rfl) ?_))
 refine wrl (sdo (v := .pointer (some ⟨g2, 2, none⟩)) A (qf TwN_fld_49_2 rfl rfl) λa A↦?_)
 refine sdo A (jh M TwN_isS_26 rfl 0 rfl (cs := [.bool y.q.b1, .slice y.o1 y.q.t1.length y.c1, .slice y.o2 y.q.q1.length y.c2, .bool y.q.b2, .slice y.o3 y.q.t2.length y.c3, .slice y.o4 y.q.q2.length y.c4]) rfl rfl) λa A↦?_
 refine qg A rfl rfl rfl (qb rfl rfl (fun w => by kernel_rfl)) (jf (Nu.below hy M.bel) hl hs) ?_
 rintro _ w12 ⟨rfl, hb11⟩
 replace M := M.call hb11
 refine ⟨_, rfl, ?_⟩
 intro a A
 refine sdo (v := .agg #[.bool false, .slice none 0 0, .slice none 0 0, .bool false, .slice none 0 0, .slice none 0 0]) A (za rfl (fun w => by kernel_rfl)) λa A↦?_
 refine sda A λa A↦?_
 refine sdo (v := .pointer (some ⟨g2, 2, none⟩)) A (qf TwN_fld_49_2 rfl rfl) λa A↦?_
 refine vk (us := [.int .i64 3, .int .i64 0, .bool false, .slice none 0 0, .slice none 0 0, .bool false, .slice none 0 0, .slice none 0 0, .string (⟨#[]⟩), .slice none 0 0, .slice none 0 0]) (L' := (.obj g2 (.cells #[.int .i64 3, .int .i64 0, .bool false, .slice none 0 0, .slice none 0 0, .bool false, .slice none 0 0, .slice none 0 0, .string (⟨#[]⟩), .slice none 0 0, .slice none 0 0] 49) :: [])) A M rfl rfl (xa rfl rfl rfl (by kernel_rfl) M 0 rfl rfl rfl) 0 rfl rfl rfl ?_
 intro w13 M
 refine qa (hK5 _ _ (wsk fun K14 hK14 => wrl ?_))
 iterate 2 refine sdm A λa A↦?_
 refine sdo A (jh M TwN_isS_49 rfl 0 rfl (cs := [.int .i64 3, .int .i64 0, .bool false, .slice none 0 0, .slice none 0 0, .bool false, .slice none 0 0, .slice none 0 0, .string (⟨#[]⟩), .slice none 0 0, .slice none 0 0]) rfl rfl) λa A↦?_
 refine qg A rfl rfl rfl (qb rfl rfl (fun w => by kernel_rfl)) (nbare) ?_
 rintro _ w16 ⟨rfl, hb15⟩
 replace M := M.call hb15
 refine ⟨_, rfl, ?_⟩
 intro a A
 refine sdk (v := .bool true) A λa A↦?_
 refine sda A λa A↦?_
 refine qa (hK14 _ _ (wp_ret (hret _ _ (en1 A rfl (qj rfl) ?_))))
 exact ⟨rfl, M.bel⟩
theorem zvf {w : World} {y : Nu} (hy : y.nm w) (hl : LenQ y.q) (hs : je y.q = true) : Calls Tryz.prog 135 #[.agg y.cs.toArray] w fun e w' => e = .returned (.bool true) ∧ Below w.heap.size w w' := by
 have M : Mg w w ([]) := Mg.start w
 refine qy (l := [(0, .agg y.cs.toArray)]) Tryz.func135 rfl Tryz.ntmps135 rfl rfl ?_
 intro Q hret hnorm hP a A
 refine wsk fun K1 hK1 => wrl (xm (vs := [.int .i64 3, .int .i64 0, .bool y.q.b1, .slice y.o1 y.q.t1.length y.c1, .slice y.o2 y.q.q1.length y.c2, .bool y.q.b2, .slice y.o3 y.q.t2.length y.c3, .slice y.o4 y.q.q2.length y.c4, .string (⟨#[]⟩), .slice none 0 0, .slice none 0 0]) (t := 49) A M rfl rfl rfl pg (qw rfl rfl) (by decide) ?_)
 intro g2 w3 M a A
 refine sda A λa A↦?_
 refine qa (hK1 _ _ (wsk fun K4 hK4 => wsk fun K5 hK5 => wrl (sdo A (jh M TwN_isS_49 rfl 0 rfl (cs := [.int .i64 3, .int .i64 0, .bool y.q.b1, .slice y.o1 y.q.t1.length y.c1, .slice y.o2 y.q.q1.length y.c2, .bool y.q.b2, .slice y.o3 y.q.t2.length y.c3, .slice y.o4 y.q.q2.length y.c4, .string (⟨#[]⟩), .slice none 0 0, .slice none 0 0]) rfl rfl) λa A↦?_)))
 refine qg A rfl rfl rfl (qb rfl rfl (fun w => by kernel_rfl)) (nbyKind (Nu.below hy M.bel) hl hs) ?_
 rintro _ w7 ⟨rfl, hb6⟩
 replace M := M.call hb6
 refine ⟨_, rfl, ?_⟩
 intro a A
 refine sdo (v := .bool false) A (zk rfl zv) λa A↦?_
 refine qa (hK5 _ _ (wp_cond_false (A.ev rfl) ?_))
 refine wp_skip (hK4 _ _ (wsk fun K8 hK8 => wsk fun K9 hK9 => wrl (sdo (v := .pointer (some ⟨g2, 10, none⟩)) A (qf TwN_fld_49_5 rfl rfl) λa A↦?_)))
 refine sdo A (zq M TwN_is1_44 rfl 0 rfl rfl) λa A↦?_
 refine sdo A (zg Tryz.underlying44 rfl) λa A↦?_
 refine sdm A λa A↦?_
 refine qa (hK9 _ _ (wp_block (js (fun m_ a w1 => ∃ (i : Nat), m_ = 0 ∧ (i = 0) ∧ Sl a 19 [(0, .agg y.cs.toArray), (1, .pointer (some ⟨g2, 0, none⟩)), (5, .agg y.cs.toArray), (6, .bool true), (7, .bool false), (8, .pointer (some ⟨g2, 10, none⟩)), (9, .slice none 0 0), (10, .int .i64 0), (11, .int .i64 (((i : Nat) : Int)))] ∧ Mg w w1 (.obj g2 (.cells y.cs.toArray 49) :: [])) _ ⟨0, rfl, rfl, A.keep _ ⟨rfl, rfl, rfl, rfl, rfl, rfl, rfl, rfl, rfl, trivial⟩, M⟩ ?_)))
 clear M A
 rintro m_ a w10 ⟨i, rfl, hinv12, A, M⟩ K11 hK11
 have hi0 : i = 0 := hinv12
 refine wsk fun K13 hK13 => wrl (sdo (v := .bool false) A (qe rfl rfl (fun w => (zt w).trans (by rw [show (decide (((i : Nat) : Int) < 0)) = false from (decide_eq_false (by omega))]))) λa A↦?_)
 refine qa (hK13 _ _ (wsk fun K14 hK14 => wp_cond_false (A.ev rfl) ?_))
 refine wp_exit (hK8 _ _ (wsk fun K15 hK15 => wrl (sda A λa A↦?_)))
 refine qa (hK15 _ _ (wp_ret (hret _ _ (en1 A rfl (qj rfl) ?_))))
 exact ⟨rfl, M.bel⟩
theorem nsound {w : World} {y : Nu} (hy : y.nm w) (hl : LenQ y.q) (hs : je y.q = true) : Calls Tryz.prog 98 #[.agg y.cs.toArray] w fun e w' => e = .returned (.bool true) ∧ Below w.heap.size w w' := by
 have M : Mg w w ([]) := Mg.start w
 refine qy (l := [(0, .agg y.cs.toArray)]) Tryz.func98 rfl Tryz.ntmps98 rfl rfl ?_
 intro Q hret hnorm hP a A
 refine wsk fun K1 hK1 => wrl (xm (vs := [.int .i64 3, .int .i64 0, .bool y.q.b1, .slice y.o1 y.q.t1.length y.c1, .slice y.o2 y.q.q1.length y.c2, .bool y.q.b2, .slice y.o3 y.q.t2.length y.c3, .slice y.o4 y.q.q2.length y.c4, .string (⟨#[]⟩), .slice none 0 0, .slice none 0 0]) (t := 49) A M rfl rfl rfl pg (qw rfl rfl) (by decide) ?_)
 intro g2 w3 M a A
 refine sda A λa A↦?_
 refine qa (hK1 _ _ (wsk fun K4 hK4 => wrl (sdo A (jh M TwN_isS_49 rfl 0 rfl (cs := [.int .i64 3, .int .i64 0, .bool y.q.b1, .slice y.o1 y.q.t1.length y.c1, .slice y.o2 y.q.q1.length y.c2, .bool y.q.b2, .slice y.o3 y.q.t2.length y.c3, .slice y.o4 y.q.q2.length y.c4, .string (⟨#[]⟩), .slice none 0 0, .slice none 0 0]) rfl rfl) λa A↦?_)))
 refine qg A rfl rfl rfl (qb rfl rfl (fun w => by kernel_rfl)) (nfits) ?_
 rintro _ w6 ⟨rfl, hb5⟩
 replace M := M.call hb5
 refine ⟨_, rfl, ?_⟩
 intro a A
 refine sdm A λa A↦?_
 refine sdo A (jh M TwN_isS_49 rfl 0 rfl (cs := [.int .i64 3, .int .i64 0, .bool y.q.b1, .slice y.o1 y.q.t1.length y.c1, .slice y.o2 y.q.q1.length y.c2, .bool y.q.b2, .slice y.o3 y.q.t2.length y.c3, .slice y.o4 y.q.q2.length y.c4, .string (⟨#[]⟩), .slice none 0 0, .slice none 0 0]) rfl rfl) λa A↦?_
 refine qg A rfl rfl rfl (qb rfl rfl (fun w => by kernel_rfl)) (zvf (Nu.below hy M.bel) hl hs) ?_
 rintro _ w8 ⟨rfl, hb7⟩
 replace M := M.call hb7
 refine ⟨_, rfl, ?_⟩
 intro a A
 refine sdk (v := .bool true) A λa A↦?_
 refine sda A λa A↦?_
 refine qa (hK4 _ _ (wp_ret (hret _ _ (en1 A rfl (qj rfl) ?_))))
 exact ⟨rfl, M.bel⟩
theorem zbc {w0 w : World} {gw : Nat} {p v : Value} {pl : Bool} {bs : List UInt8} {T : List Ck} (M : Mg w0 w (.obj gw (.cells #[p, v, .bool pl] 149) :: .row BY 1 v bs.length (Lib.byteCells bs) :: T)) (h0 : bs ≠ []) (hmax : bs.length ≤ 9223372036854775807) : Calls Tryz.prog 63 #[.pointer (some ⟨gw, 0, none⟩)] w fun e w' => e = .returned (.string ⟨bs.toArray⟩) ∧ Below w0.heap.size w w' := by
 have hown := M.has 1 rfl
 have hb := M.obj 0 rfl
 have hl0 : bs.length ≠ 0 := by simpa using h0
 rcases hown.2 with ⟨_, hz⟩ | ⟨g, cap, cur, rfl, hbg, hg, hnc, hcm, hcs, htake⟩
 ·
  exact absurd hz hl0
 ·
  exact str_pos h0 hb hg hnc hmax hbg (fun j x hx => by
   have h9 := hown.cells (g := g) rfl j (.int .u8 x.toNat) (by simp [Lib.byteCells, hx])
   rw [xn, Nat.zero_add] at h9
   exact h9) (by simp at hcs; omega)
theorem zvg (l : List UInt8) : (⟨l.toArray⟩ : ByteArray).size = l.length := by rw [← qkj]
theorem zbd {w0 w : World} {gw : Nat} {p v : Value} {pl : Bool} {bs : List UInt8} {T : List Ck} (hp : p = .pointer none ∨ p = .pointer (some ⟨gw, 0, none⟩)) (hM0 : Mg w0 w (.obj gw (.cells #[p, v, .bool pl] 149) :: .row BY 1 v bs.length (Lib.byteCells bs) :: T)) {y : Nu} {tx : List UInt8} (hTx : ∀ W, Below w0.heap.size w0 W → Calls Tryz.prog 13 #[.agg #[.bool y.q.b1, .slice y.o1 y.q.t1.length y.c1, .slice y.o2 y.q.q1.length y.c2, .bool y.q.b2, .slice y.o3 y.q.t2.length y.c3, .slice y.o4 y.q.q2.length y.c4], .int .i64 10] W fun e w' => e = .returned (.tuple #[.string ⟨tx.toArray⟩, .int .i64 0]) ∧ Below W.heap.size W w') (hroom : bs.length + tx.length ≤ 140737488355328) : Calls Tryz.prog 138 #[.pointer (some ⟨gw, 0, none⟩), .agg #[.bool y.q.b1, .slice y.o1 y.q.t1.length y.c1, .slice y.o2 y.q.q1.length y.c2, .bool y.q.b2, .slice y.o3 y.q.t2.length y.c3, .slice y.o4 y.q.q2.length y.c4]] w fun e w' => e = .returned (.tuple #[]) ∧ ∃ v', Mg w0 w' (.obj gw (.cells #[.pointer (some ⟨gw, 0, none⟩), v', .bool pl] 149) :: .row BY 1 v' (bs ++ tx).length (Lib.byteCells (bs ++ tx)) :: T) := by
 have M : Mg w0 w (.obj gw (.cells #[p, v, .bool pl] 149) :: .row BY 1 (v) bs.length ((Lib.byteCells bs)) :: T) := hM0
 refine qy (l := [(0, .pointer (some ⟨gw, 0, none⟩)), (1, .agg #[.bool y.q.b1, .slice y.o1 y.q.t1.length y.c1, .slice y.o2 y.q.q1.length y.c2, .bool y.q.b2, .slice y.o3 y.q.t2.length y.c3, .slice y.o4 y.q.q2.length y.c4])]) Tryz.func138 rfl Tryz.ntmps138 rfl rfl ?_
 intro Q hret hnorm hP a A
 refine wsk fun K1 hK1 => wrl (xm (vs := [.bool y.q.b1, .slice y.o1 y.q.t1.length y.c1, .slice y.o2 y.q.q1.length y.c2, .bool y.q.b2, .slice y.o3 y.q.t2.length y.c3, .slice y.o4 y.q.q2.length y.c4]) (t := 26) A M rfl rfl rfl pg (qw rfl rfl) (by decide) ?_)
 intro g2 w3 M a A
 refine qa (hK1 _ _ (wsk fun K4 hK4 => wrl (sdo A (jh M TwN_isS_26 rfl 0 rfl (cs := [.bool y.q.b1, .slice y.o1 y.q.t1.length y.c1, .slice y.o2 y.q.q1.length y.c2, .bool y.q.b2, .slice y.o3 y.q.t2.length y.c3, .slice y.o4 y.q.q2.length y.c4]) rfl rfl) λa A↦?_)))
 refine qg A rfl rfl rfl (qb rfl rfl (fun w => by kernel_rfl)) (hTx _ M.bel) ?_
 rintro _ w5 ⟨rfl, hbx⟩
 replace M := M.call hbx
 refine ⟨_, rfl, ?_⟩
 intro a A
 refine sdm A λa A↦?_
 iterate 2 refine sdo A (qm (vs := [.string (⟨tx.toArray⟩), .int .i64 0]) rfl rfl) λa A↦?_
 iterate 2 refine sda A λa A↦?_
 refine qa (hK4 _ _ (wrl (sdm A λa A↦?_)))
 refine sdo A (yb rfl) λa A↦?_
 refine sdo (v := .pointer (some ⟨gw, 0, none⟩)) A (qf TwN_fld_149_0 rfl rfl) λa A↦?_
 refine sdm A λa A↦?_
 refine qg A rfl rfl rfl (qb rfl rfl (fun w => by kernel_rfl)) (zve hp (toW (X := [.obj g2 (.cells #[.bool y.q.b1, .slice y.o1 y.q.t1.length y.c1, .slice y.o2 y.q.q1.length y.c2, .bool y.q.b2, .slice y.o3 y.q.t2.length y.c3, .slice y.o4 y.q.q2.length y.c4] 26)]) M) (s := ⟨tx.toArray⟩) (by rw [zvg]; exact hroom)) ?_
 rintro _ w8 ⟨rfl, v6, hM7⟩
 replace M : Mg w0 w8 (.obj g2 (.cells #[.bool y.q.b1, .slice y.o1 y.q.t1.length y.c1, .slice y.o2 y.q.q1.length y.c2, .bool y.q.b2, .slice y.o3 y.q.t2.length y.c3, .slice y.o4 y.q.q2.length y.c4] 26) :: .obj gw (.cells #[.pointer (some ⟨gw, 0, none⟩), v6, .bool pl] 149) :: .row BY 1 (v6) (((bs ++ tx)).length) ((Lib.byteCells ((bs ++ tx)))) :: T) := (fromW (X := [.obj g2 (.cells #[.bool y.q.b1, .slice y.o1 y.q.t1.length y.c1, .slice y.o2 y.q.q1.length y.c2, .bool y.q.b2, .slice y.o3 y.q.t2.length y.c3, .slice y.o4 y.q.q2.length y.c4] 26)]) hM7)
 refine ⟨_, rfl, ?_⟩
 intro a A
 refine qa (hnorm _ _ (ends (v := .tuple #[]) A rfl .nil rfl ?_))
 exact ⟨rfl, v6, M.sub (.cons _ (.cons_cons _ (.cons_cons _ (.refl _))))⟩
theorem ndatum {w0 w : World} {gw : Nat} {p v : Value} {pl : Bool} {bs : List UInt8} {T : List Ck} (hp : p = .pointer none ∨ p = .pointer (some ⟨gw, 0, none⟩)) (hM0 : Mg w0 w (.obj gw (.cells #[p, v, .bool pl] 149) :: .row BY 1 v bs.length (Lib.byteCells bs) :: T)) {y : Nu} {tx : List UInt8} (hTx : ∀ W, Below w0.heap.size w0 W → Calls Tryz.prog 13 #[.agg #[.bool y.q.b1, .slice y.o1 y.q.t1.length y.c1, .slice y.o2 y.q.q1.length y.c2, .bool y.q.b2, .slice y.o3 y.q.t2.length y.c3, .slice y.o4 y.q.q2.length y.c4], .int .i64 10] W fun e w' => e = .returned (.tuple #[.string ⟨tx.toArray⟩, .int .i64 0]) ∧ Below W.heap.size W w') (hroom : bs.length + tx.length ≤ 140737488355328) : Calls Tryz.prog 99 #[.pointer (some ⟨gw, 0, none⟩), .agg y.cs.toArray] w fun e w' => e = .returned (.tuple #[]) ∧ ∃ v', Mg w0 w' (.obj gw (.cells #[.pointer (some ⟨gw, 0, none⟩), v', .bool pl] 149) :: .row BY 1 v' (bs ++ tx).length (Lib.byteCells (bs ++ tx)) :: T) := by
 have M : Mg w0 w (.obj gw (.cells #[p, v, .bool pl] 149) :: .row BY 1 (v) bs.length ((Lib.byteCells bs)) :: T) := hM0
 refine qy (l := [(0, .pointer (some ⟨gw, 0, none⟩)), (1, .agg y.cs.toArray)]) Tryz.func99 rfl Tryz.ntmps99 rfl rfl ?_
 intro Q hret hnorm hP a A
 refine wsk fun K1 hK1 => wrl (xm (vs := [.int .i64 3, .int .i64 0, .bool y.q.b1, .slice y.o1 y.q.t1.length y.c1, .slice y.o2 y.q.q1.length y.c2, .bool y.q.b2, .slice y.o3 y.q.t2.length y.c3, .slice y.o4 y.q.q2.length y.c4, .string (⟨#[]⟩), .slice none 0 0, .slice none 0 0]) (t := 49) A M rfl rfl rfl pg (qw rfl rfl) (by decide) ?_)
 intro g2 w3 M a A
 refine qa (hK1 _ _ (wsk fun K4 hK4 => wrl (sdo (v := .pointer (some ⟨g2, 0, none⟩)) A (qf TwN_fld_49_0 rfl rfl) λa A↦?_)))
 refine sdo A (zq M TwN_is1_3 rfl 0 rfl rfl) λa A↦?_
 refine qa (hK4 _ _ (wp_block (wsk fun K5 hK5 => wrl (sdo (v := .bool false) A (qe rfl rfl (fun w => by kernel_rfl)) λa A↦?_))))
 refine sda A λa A↦?_
 refine qa (hK5 _ _ (wp_cond_false (A.ev rfl) ?_))
 refine wsk fun K6 hK6 => wrl (sdo (v := .bool false) A (qe rfl rfl (fun w => by kernel_rfl)) λa A↦?_)
 refine sda A λa A↦?_
 refine qa (hK6 _ _ (wp_cond_false (A.ev rfl) ?_))
 refine wsk fun K7 hK7 => wrl (sdo (v := .bool true) A (qe rfl rfl (fun w => by kernel_rfl)) λa A↦?_)
 refine sda A λa A↦?_
 refine qa (hK7 _ _ (wp_cond_true (A.ev rfl) ?_))
 refine wrl (sdm A λa A↦?_)
 refine sdo (v := .pointer (some ⟨g2, 2, none⟩)) A (qf TwN_fld_49_2 rfl rfl) λa A↦?_
 refine sdo A (jh M TwN_isS_26 rfl 0 rfl (cs := [.bool y.q.b1, .slice y.o1 y.q.t1.length y.c1, .slice y.o2 y.q.q1.length y.c2, .bool y.q.b2, .slice y.o3 y.q.t2.length y.c3, .slice y.o4 y.q.q2.length y.c4]) rfl rfl) λa A↦?_
 refine qg A rfl rfl rfl (qb rfl rfl (fun w => by kernel_rfl)) (zbd hp (toW (X := [.obj g2 (.cells y.cs.toArray 49)]) M) (y := y) hTx hroom) ?_
 rintro _ w10 ⟨rfl, v8, hM9⟩
 replace M : Mg w0 w10 (.obj g2 (.cells y.cs.toArray 49) :: .obj gw (.cells #[.pointer (some ⟨gw, 0, none⟩), v8, .bool pl] 149) :: .row BY 1 (v8) (((bs ++ tx)).length) ((Lib.byteCells ((bs ++ tx)))) :: T) := (fromW (X := [.obj g2 (.cells y.cs.toArray 49)]) hM9)
 refine ⟨_, rfl, ?_⟩
 intro a A
 refine qa (hnorm _ _ (ends (v := .tuple #[]) A rfl .nil rfl ?_))
 exact ⟨rfl, v8, M.sub (.cons _ (.cons_cons _ (.cons_cons _ (.refl _))))⟩
theorem ntext {w : World} {y : Nu} (hy : y.nm w) (hl : LenQ y.q) (hs : je y.q = true) {tx : List UInt8} (hTx : ∀ W, Below w.heap.size w W → Calls Tryz.prog 13 #[.agg #[.bool y.q.b1, .slice y.o1 y.q.t1.length y.c1, .slice y.o2 y.q.q1.length y.c2, .bool y.q.b2, .slice y.o3 y.q.t2.length y.c3, .slice y.o4 y.q.q2.length y.c4], .int .i64 10] W fun e w' => e = .returned (.tuple #[.string ⟨tx.toArray⟩, .int .i64 0]) ∧ Below W.heap.size W w') (htx : tx ≠ []) (hroom : tx.length ≤ 140737488355328) (pl : Bool) : Calls Tryz.prog 49 #[.agg y.cs.toArray, .bool pl] w fun e w' => e = .returned (.tuple #[.string ⟨tx.toArray⟩, .int .i64 0]) ∧ Below w.heap.size w w' := by
 have M : Mg w w ([]) := Mg.start w
 refine qy (l := [(0, .agg y.cs.toArray), (1, .bool pl)]) Tryz.func49 rfl Tryz.ntmps49 rfl rfl ?_
 intro Q hret hnorm hP a A
 refine wsk fun K1 hK1 => wrl (xm (vs := [.int .i64 3, .int .i64 0, .bool y.q.b1, .slice y.o1 y.q.t1.length y.c1, .slice y.o2 y.q.q1.length y.c2, .bool y.q.b2, .slice y.o3 y.q.t2.length y.c3, .slice y.o4 y.q.q2.length y.c4, .string (⟨#[]⟩), .slice none 0 0, .slice none 0 0]) (t := 49) A M rfl rfl rfl pg (qw rfl rfl) (by decide) ?_)
 intro g2 w3 M a A
 iterate 2 refine sda A λa A↦?_
 refine qa (hK1 _ _ (wsk fun K4 hK4 => wsk fun K5 hK5 => wrl (sdo A (jh M TwN_isS_49 rfl 0 rfl (cs := [.int .i64 3, .int .i64 0, .bool y.q.b1, .slice y.o1 y.q.t1.length y.c1, .slice y.o2 y.q.q1.length y.c2, .bool y.q.b2, .slice y.o3 y.q.t2.length y.c3, .slice y.o4 y.q.q2.length y.c4, .string (⟨#[]⟩), .slice none 0 0, .slice none 0 0]) rfl rfl) λa A↦?_)))
 refine qg A rfl rfl rfl (qb rfl rfl (fun w => by kernel_rfl)) (nsound (Nu.below hy M.bel) hl hs) ?_
 rintro _ w7 ⟨rfl, hb6⟩
 replace M := M.call hb6
 refine ⟨_, rfl, ?_⟩
 intro a A
 refine sdo (v := .bool false) A (zk rfl zv) λa A↦?_
 refine qa (hK5 _ _ (wp_cond_false (A.ev rfl) ?_))
 refine wp_skip (hK4 _ _ (wsk fun K8 hK8 => wrl (sdm A λa A↦?_)))
 refine sdo (v := .agg #[.pointer none, .slice none 0 0, .bool pl]) A (za rfl (fun w => by kernel_rfl)) λa A↦?_
 refine xm (vs := [.pointer none, .slice none 0 0, .bool false]) (t := 149) A M rfl rfl rfl pg (ql (z := .agg #[.pointer none, .slice none 0 0, .bool false]) (by kernel_rfl) rfl) (by decide) ?_
 intro g9 w10 M a A
 refine vk (us := [.pointer none, .slice none 0 0, .bool pl]) (L' := (.obj g9 (.cells #[.pointer none, .slice none 0 0, .bool pl] 149) :: .obj g2 (.cells y.cs.toArray 49) :: [])) A M rfl rfl (xa rfl rfl rfl (by kernel_rfl) M 0 rfl rfl rfl) 0 rfl rfl rfl ?_
 intro w11 M
 refine qa (hK8 _ _ (wsk fun K12 hK12 => ?_))
 have hMn := Mg.addNil M (qp (by simp) (qp (by simp) (zb zd)))
 obtain ⟨gw, hgw⟩ : ∃ x, x = g9 := ⟨_, rfl⟩
 rw [← hgw] at A hMn
 replace M : Mg w w11 (.obj gw (.cells #[.pointer none, .slice none 0 0, .bool pl] 149) :: .row BY 1 (.slice none 0 0) 0 ([]) :: .obj g2 (.cells y.cs.toArray 49) :: []) := hMn.perm (.swap _ _ _)
 refine wrl (sdo A (jh M TwN_isS_49 rfl 2 rfl (cs := [.int .i64 3, .int .i64 0, .bool y.q.b1, .slice y.o1 y.q.t1.length y.c1, .slice y.o2 y.q.q1.length y.c2, .bool y.q.b2, .slice y.o3 y.q.t2.length y.c3, .slice y.o4 y.q.q2.length y.c4, .string (⟨#[]⟩), .slice none 0 0, .slice none 0 0]) rfl rfl) λa A↦?_)
 refine qg A rfl rfl rfl (qb rfl rfl (fun w => by kernel_rfl)) (ndatum (bs := []) (.inl rfl) M hTx (by simpa using hroom)) ?_
 rintro _ w13 ⟨rfl, v9, hM9⟩
 replace M : Mg w w13 (.obj gw (.cells #[.pointer (some ⟨gw, 0, none⟩), v9, .bool pl] 149) :: .row BY 1 (v9) (([] ++ tx).length) ((Lib.byteCells ([] ++ tx))) :: .obj g2 (.cells y.cs.toArray 49) :: []) := hM9
 refine ⟨_, rfl, ?_⟩
 intro a A
 refine qa (hK12 _ _ (wsk fun K14 hK14 => wrl (sdo (v := .pointer (some ⟨gw, 0, none⟩)) A (qf TwN_fld_149_0 rfl rfl) λa A↦?_)))
 refine qg A rfl rfl rfl (qb rfl rfl (fun w => by kernel_rfl)) (zbc (bs := [] ++ tx) M (by simpa using htx) (by simp; omega)) ?_
 rintro _ w15 ⟨rfl, hbs⟩
 replace M : Mg w w15 ([]) := ⟨M.bel.trans hbs, by simp, .nil⟩
 refine ⟨_, rfl, ?_⟩
 intro a A
 iterate 2 refine sda A λa A↦?_
 refine qa (hK14 _ _ (wp_ret (hret _ _ (en2 A rfl (qj rfl) (qj rfl) ?_))))
 exact ⟨rfl, M.bel⟩
theorem nwrite {w : World} {y : Nu} (hy : y.nm w) (hl : LenQ y.q) (hs : je y.q = true) {tx : List UInt8} (hTx : ∀ W, Below w.heap.size w W → Calls Tryz.prog 13 #[.agg #[.bool y.q.b1, .slice y.o1 y.q.t1.length y.c1, .slice y.o2 y.q.q1.length y.c2, .bool y.q.b2, .slice y.o3 y.q.t2.length y.c3, .slice y.o4 y.q.q2.length y.c4], .int .i64 10] W fun e w' => e = .returned (.tuple #[.string ⟨tx.toArray⟩, .int .i64 0]) ∧ Below W.heap.size W w') (htx : tx ≠ []) (hroom : tx.length ≤ 140737488355328) : Calls Tryz.prog 16 #[.agg y.cs.toArray] w fun e w' => e = .returned (.tuple #[.string ⟨tx.toArray⟩, .int .i64 0]) ∧ Below w.heap.size w w' := by
 have M : Mg w w ([]) := Mg.start w
 refine qy (l := [(0, .agg y.cs.toArray)]) Tryz.func16 rfl Tryz.ntmps16 rfl rfl ?_
 intro Q hret hnorm hP a A
 refine wsk fun K1 hK1 => wrl (xm (vs := [.int .i64 3, .int .i64 0, .bool y.q.b1, .slice y.o1 y.q.t1.length y.c1, .slice y.o2 y.q.q1.length y.c2, .bool y.q.b2, .slice y.o3 y.q.t2.length y.c3, .slice y.o4 y.q.q2.length y.c4, .string (⟨#[]⟩), .slice none 0 0, .slice none 0 0]) (t := 49) A M rfl rfl rfl pg (qw rfl rfl) (by decide) ?_)
 intro g2 w3 M a A
 iterate 2 refine sda A λa A↦?_
 refine qa (hK1 _ _ (wsk fun K4 hK4 => wrl (sdo A (jh M TwN_isS_49 rfl 0 rfl (cs := [.int .i64 3, .int .i64 0, .bool y.q.b1, .slice y.o1 y.q.t1.length y.c1, .slice y.o2 y.q.q1.length y.c2, .bool y.q.b2, .slice y.o3 y.q.t2.length y.c3, .slice y.o4 y.q.q2.length y.c4, .string (⟨#[]⟩), .slice none 0 0, .slice none 0 0]) rfl rfl) λa A↦?_)))
 refine qg A rfl rfl rfl (qb rfl rfl (fun w => by kernel_rfl)) (ntext (Nu.below hy M.bel) hl hs (fun W hW => hTx W (M.bel.trans (hW.mono M.bel.size))) htx hroom false) ?_
 rintro _ w5 ⟨rfl, hbt⟩
 replace M := M.call hbt
 refine ⟨_, rfl, ?_⟩
 intro a A
 iterate 2 refine sdo A (qm (vs := [.string (⟨tx.toArray⟩), .int .i64 0]) rfl rfl) λa A↦?_
 iterate 2 refine sda A λa A↦?_
 refine qa (hK4 _ _ (wp_ret (hret _ _ (en2 A rfl (qj rfl) (qj rfl) ?_))))
 exact ⟨rfl, M.bel⟩
end Go.Proofs.YtjkpfnghiooblaaGreatDoor.G
namespace Go.Proofs.YtjkpfnghiooblaaGreatDoor
open Go.RowKit
set_option linter.unusedVariables false
set_option linter.unusedSimpArgs false

theorem znd {w : World} {q : Q6} {o1 o2 o3 o4 : Option Addr} {c1 c2 c3 c4 : Nat} (ha : Nm w q o1 c1 o2 c2 o3 c3 o4 c4) (hl : LenQ q) (hs : je q = true) (htx : vj 10 q ≠ []) (hroom : (vj 10 q).length ≤ 140737488355328) :
    Calls Tryz.prog 16 #[.agg #[.int .i64 3, .int .i64 0, .bool q.b1, .slice o1 q.t1.length c1, .slice o2 q.q1.length c2, .bool q.b2, .slice o3 q.t2.length c3, .slice o4 q.q2.length c4, .string ⟨#[]⟩, .slice none 0 0, .slice none 0 0]] w fun e w' => e = .returned (.tuple #[.string (bsL (vj 10 q)), .int .i64 0]) ∧ Below w.heap.size w w' := by
  exact G.nwrite (y := ⟨q, o1, c1, o2, c2, o3, c3, o4, c4⟩) ha hl hs (tx := vj 10 q) (fun W hW => qte (r := 10) (G.yw ha hW) hl (.inr (.inr (.inl rfl))) hs) htx hroom
theorem zne : je vi = true := ya zif yn
theorem znf {w : World} {o1 o2 o3 o4 : Option Addr} {c1 c2 c3 c4 : Nat} (ha : Nm w vi o1 c1 o2 c2 o3 c3 o4 c4) (hl : LenQ vi) :
    Calls Tryz.prog 16 #[.agg #[.int .i64 3, .int .i64 0, .bool vi.b1, .slice o1 vi.t1.length c1, .slice o2 vi.q1.length c2, .bool vi.b2, .slice o3 vi.t2.length c3, .slice o4 vi.q2.length c4, .string ⟨#[]⟩, .slice none 0 0, .slice none 0 0]] w fun e w' => e = .returned (.tuple #[.string ⟨#[51, 47, 50]⟩, .int .i64 0]) ∧ Below w.heap.size w w' := by
  have h := znd ha hl zne (by rw [qpd]; decide) (by rw [qpd]; decide)
  rw [qpd] at h
  exact h
set_option maxRecDepth 100000
theorem WnF_isS_26 : IsS Tryz.prog 26 6 := ⟨⟨_, Tryz.underlying26⟩, by kernel_rfl⟩
theorem hl128 : LenQ vi := qnc zif yn
theorem qie {w : World} : Calls Tryz.prog 6 #[] w fun e w' => e = .returned (.bool true) ∧ Below w.heap.size w w' := by
 have S : St w w [] [] [] := St.start w
 refine qy (l := []) Tryz.func6 rfl Tryz.ntmps6 rfl rfl ?_
 intro Q hret hnorm hP a A
 refine wsk fun K1 hK1 => wrl (sda A λa A↦?_)
 refine qa (hK1 _ _ (wsk fun K2 hK2 => wrl (qg A rfl rfl rfl (qb  rfl rfl (fun w => by kernel_rfl)) ((zsh ▸ qri (l := [49, 50, 47, 56]) (n := 10) (by decide))) ?_)))
 rintro _ w6 ⟨p3_1, p3_c1, p3_2, p3_c2, p3_3, p3_c3, p3_4, p3_c4, rfl, hn4, hb5⟩
 replace S := S.call hb5
 replace S := S.addR hn4.s1.rd
 replace S := S.addR hn4.s2.rd
 replace S := S.addR hn4.s3.rd
 replace S := S.addR hn4.s4.rd
 refine ⟨_, rfl, ?_⟩
 intro a A
 refine sdm A λa A↦?_
 iterate 2 refine sdo A (qm (vs := [.agg #[.bool vi.b1, .slice p3_1 vi.t1.length p3_c1, .slice p3_2 vi.q1.length p3_c2, .bool vi.b2, .slice p3_3 vi.t2.length p3_c3, .slice p3_4 vi.q2.length p3_c4], .int .i64 0]) rfl rfl) λa A↦?_
 refine qn (vs := [.bool false, .slice none 0 0, .slice none 0 0, .bool false, .slice none 0 0, .slice none 0 0]) (t := 26) A S rfl rfl rfl pg (ql (z := .agg #[.bool false, .slice none 0 0, .slice none 0 0, .bool false, .slice none 0 0, .slice none 0 0]) (by kernel_rfl) rfl) rfl ?_
 intro g7 w8 S a A
 refine qr (us := [.bool vi.b1, .slice p3_1 vi.t1.length p3_c1, .slice p3_2 vi.q1.length p3_c2, .bool vi.b2, .slice p3_3 vi.t2.length p3_c3, .slice p3_4 vi.q2.length p3_c4]) A S rfl rfl (qi rfl rfl rfl (by kernel_rfl) S 0 rfl rfl rfl) 0 rfl rfl rfl rfl ?_
 intro w9 S
 refine sda A λa A↦?_
 refine qa (hK2 _ _ (wsk fun K10 hK10 => wrl (sdo A (qk S WnF_isS_26 rfl 0 rfl (cs := [.bool vi.b1, .slice p3_1 vi.t1.length p3_c1, .slice p3_2 vi.q1.length p3_c2, .bool vi.b2, .slice p3_3 vi.t2.length p3_c3, .slice p3_4 vi.q2.length p3_c4]) rfl rfl) λa A↦?_)))
 refine sdo (v := .agg #[.int .i64 3, .int .i64 0, .bool vi.b1, .slice p3_1 vi.t1.length p3_c1, .slice p3_2 vi.q1.length p3_c2, .bool vi.b2, .slice p3_3 vi.t2.length p3_c3, .slice p3_4 vi.q2.length p3_c4, .string (⟨#[]⟩), .slice none 0 0, .slice none 0 0]) A (za rfl (fun w => by kernel_rfl)) λa A↦?_
 refine qg A rfl rfl rfl (qb  rfl rfl (fun w => by kernel_rfl)) (znf (show Nm _ _ p3_1 p3_c1 p3_2 p3_c2 p3_3 p3_c3 p3_4 p3_c4 from ⟨⟨(S.rd 3 rfl), hn4.s1.nil, hn4.s1.cap⟩, ⟨(S.rd 2 rfl), hn4.s2.nil, hn4.s2.cap⟩, ⟨(S.rd 1 rfl), hn4.s3.nil, hn4.s3.cap⟩, ⟨(S.rd 0 rfl), hn4.s4.nil, hn4.s4.cap⟩⟩) hl128) ?_
 rintro _ w12 ⟨rfl, hb11⟩
 replace S := S.call hb11
 refine ⟨_, rfl, ?_⟩
 intro a A
 refine sdm A λa A↦?_
 iterate 2 refine sdo A (qm (vs := [.string (⟨#[51, 47, 50]⟩), .int .i64 0]) rfl rfl) λa A↦?_
 iterate 2 refine sda A λa A↦?_
 refine qa (hK10 _ _ (wsk fun K13 hK13 => wrl (sdm A λa A↦?_)))
 refine sdo (v := .bool true) A (qe rfl rfl (fun w => by kernel_rfl)) λa A↦?_
 iterate 2 refine sdm A λa A↦?_
 refine sdo (v := .bool true) A (qe rfl rfl (fun w => by kernel_rfl)) λa A↦?_
 refine sdk (v := .bool true) A λa A↦?_
 iterate 2 refine sdm A λa A↦?_
 refine sdo (v := .bool true) A (qe rfl rfl (fun w => by kernel_rfl)) λa A↦?_
 refine sdk (v := .bool true) A λa A↦?_
 refine sda A λa A↦?_
 refine qa (hK13 _ _ (wp_ret (hret _ _ (en1 A rfl (qj rfl) ?_))))
 exact ⟨rfl, S.bel⟩
theorem zvh {w : World} {q : Q6} {a1 a2 a3 a4 : Option Addr} {ac1 ac2 ac3 ac4 : Nat} (ha : Nm w q a1 ac1 a2 ac2 a3 ac3 a4 ac4) (hl : LenQ q) (bg : Bool) {n0 ec : Int} (e0 : vu q = (n0, ec)) (hno : ec ≠ 0 ∨ 500 < n0) : Calls Tryz.prog 3 #[jx q a1 ac1 a2 ac2 a3 ac3 a4 ac4, .bool bg] w fun e w' => e = .returned (.bool true) ∧ Below w.heap.size w w' := by
 have S : St w w [] [(a4, q.q2), (a3, q.t2), (a2, q.q1), (a1, q.t1)] [] := ((((St.start w).addR ha.s1.rd).addR ha.s2.rd).addR ha.s3.rd).addR ha.s4.rd
 refine qy (l := [(0, .agg #[.bool q.b1, .slice a1 q.t1.length ac1, .slice a2 q.q1.length ac2, .bool q.b2, .slice a3 q.t2.length ac3, .slice a4 q.q2.length ac4]), (1, .bool bg)]) Tryz.func3 rfl Tryz.ntmps3 rfl rfl ?_
 intro Q hret hnorm hP a A
 refine wsk fun K1 hK1 => wrl (qn A S rfl rfl rfl pg (qw rfl rfl) rfl ?_)
 intro g2 w3 S a A
 refine sda A λa A↦?_
 refine qa (hK1 _ _ (wsk fun K4 hK4 => wrl (sdo A (qk S WnF_isS_26 rfl 0 rfl (cs := [.bool q.b1, .slice a1 q.t1.length ac1, .slice a2 q.q1.length ac2, .bool q.b2, .slice a3 q.t2.length ac3, .slice a4 q.q2.length ac4]) rfl rfl) λa A↦?_)))
 refine qg A rfl rfl rfl (qb  rfl rfl (fun w => by kernel_rfl)) ((e0 ▸ qke (show Nm _ _ a1 ac1 a2 ac2 a3 ac3 a4 ac4 from ⟨⟨(S.rd 3 rfl), ha.s1.nil, ha.s1.cap⟩, ⟨(S.rd 2 rfl), ha.s2.nil, ha.s2.cap⟩, ⟨(S.rd 1 rfl), ha.s3.nil, ha.s3.cap⟩, ⟨(S.rd 0 rfl), ha.s4.nil, ha.s4.cap⟩⟩) hl)) ?_
 rintro _ w6 ⟨rfl, hb5⟩
 replace S := S.call hb5
 refine ⟨_, rfl, ?_⟩
 intro a A
 refine sdm A λa A↦?_
 iterate 2 refine sdo A (qm (vs := [.int .i64 n0, .int .i64 ec]) rfl rfl) λa A↦?_
 iterate 2 refine sda A λa A↦?_
 refine qa (hK4 _ _ (wsk fun K7 hK7 => wsk fun K8 hK8 => wrl (qg A rfl rfl rfl (qb  rfl rfl (fun w => by kernel_rfl)) (qie) ?_)))
 rintro _ w10 ⟨rfl, hb9⟩
 replace S := S.call hb9
 refine ⟨_, rfl, ?_⟩
 intro a A
 refine sdo (v := .bool false) A (zk rfl zv) λa A↦?_
 iterate 2 refine sdm A λa A↦?_
 rcases tf ((ec != 0)) with hb11 | hb11
 ·
  have hb11' := bne_iff_ne.1 hb11
  refine sdo (v := .bool true) A (qe rfl rfl (fun w => (jd w).trans (by rw [hb11]))) λa A↦?_
  refine sdk (v := .bool true) A λa A↦?_
  refine sdm A λa A↦?_
  iterate 2 refine ze A rfl rfl rfl λa A↦?_
  refine sdk (v := .bool true) A λa A↦?_
  refine qa (hK8 _ _ (wp_cond_true (A.ev rfl) ?_))
  refine wsk fun K12 hK12 => wrl (qg A rfl rfl rfl (qb  rfl rfl (fun w => by kernel_rfl)) (qie) ?_)
  rintro _ w14 ⟨rfl, hb13⟩
  replace S := S.call hb13
  refine ⟨_, rfl, ?_⟩
  intro a A
  refine sda A λa A↦?_
  refine qa (hK12 _ _ (wp_ret (hret _ _ (en1 A rfl (qj rfl) ?_))))
  exact ⟨rfl, S.bel⟩
 ·
  have hb11' := bne_eq_false_iff_eq.1 hb11
  refine sdo (v := .bool false) A (qe rfl rfl (fun w => (jd w).trans (by rw [hb11]))) λa A↦?_
  refine sdk (v := .bool false) A λa A↦?_
  iterate 2 refine sdm A λa A↦?_
  refine sdo (v := .bool true) A (qe rfl rfl (fun w => (ju w).trans (by rw [show (decide (500 < n0)) = true from (decide_eq_true (by omega))]))) λa A↦?_
  refine sdk (v := .bool true) A λa A↦?_
  refine qa (hK8 _ _ (wp_cond_true (A.ev rfl) ?_))
  refine wsk fun K15 hK15 => wrl (qg A rfl rfl rfl (qb  rfl rfl (fun w => by kernel_rfl)) (qie) ?_)
  rintro _ w17 ⟨rfl, hb16⟩
  replace S := S.call hb16
  refine ⟨_, rfl, ?_⟩
  intro a A
  refine sda A λa A↦?_
  refine qa (hK15 _ _ (wp_ret (hret _ _ (en1 A rfl (qj rfl) ?_))))
  exact ⟨rfl, S.bel⟩
theorem qjh {w : World} {q : Q6} {a1 a2 a3 a4 : Option Addr} {ac1 ac2 ac3 ac4 : Nat} (ha : Nm w q a1 ac1 a2 ac2 a3 ac3 a4 ac4) (hl : LenQ q) (bg : Bool) : Calls Tryz.prog 3 #[jx q a1 ac1 a2 ac2 a3 ac3 a4 ac4, .bool bg] w fun e w' => e = .returned (.bool true) ∧ Below w.heap.size w w' := by
 by_cases h : (vu q).2 ≠ 0 ∨ 500 < (vu q).1
 ·
  exact zvh ha hl bg (n0 := (vu q).1) (ec := (vu q).2) rfl h
 ·
  rcases yz q with ⟨hw, h2⟩ | ⟨hw, _⟩
  ·
   obtain ⟨b, x, rfl, hx, hb⟩ := qeb ha h2
   have e0 := uf (b := b) (x := x) (qci hx hb)
   rw [e0] at h
   have hbl : bl (x - b.toNat) ≤ 500 := by simp at h; omega
   obtain ⟨F, X2, X3, e1, e2, e3, e4, e5, l1, l2, l3, _, _⟩ := qyg hx hb hbl
   obtain ⟨p, hpl, hGet, hPut⟩ := zvb ha hx hb hbl bg
   exact zvc ha hx hb bg e0 (by omega) e1 e2 e3 e4 e5 l1 l2 l3 hpl hGet hPut rfl (zme hx hb hbl) (Nat.le_trans (qzf hx hb hbl) (by decide)) (vb hx hb) (fun W hW => qie)
  ·
   exact absurd (.inl (by rw [qkd hw]; exact bne_iff_ne.1 hw)) h
end Go.Proofs.YtjkpfnghiooblaaGreatDoor
