/- Walks of the first part of a type. Steps over rows whose place is told by an equation. The walk of conditions that are joined. Which lists are sound, and what the calls answer. What joins say, of lists as they are. Conditions: errors, and what is told of them. Walks of lists that are taken apart. A range over a function: steps within a round, and slices.Backward. slices.Backward over data. Items, linked one behind the other. Walks of the items of lists. Walks of lists that are joined, and of new lists. Walks of Of, Append, Tail and Reverse. Walks of errors. The library's contracts, as theorems of this program. A builder that is a part of a struct: its check, and the text that it holds. A builder of its own: its check, and the text that it holds. Walks of a builder that is a part of a struct. Walks of a builder of its own, and of texts that are shown. Walks of what is told of a condition. The walk of Tell. Conditions: a fixed one, and the tree of types. Walks of a fixed fact, and of the document on types. Conditions: the first part of a type, in conditions that are joined. Walks of the document's sameness and order of numbers. The same trees. The walk of the document's utf8. Units of a text as rows; when a text has no bad byte. Walks of the document's Sound. The walk of the document's Sound. The walk of the document's sameness of data. -/
import Derived.Test.YtdpakekdbkpdfaaGreatDoorPcondfi9f
import Derived.RangeFuncNested
import Derived.RangeFuncLeaves
import Derived.LoopNIn
import Derived.Test.YtdpakekdbkpdfaaGreatDoorProg
import Derived.Test.YtdpakekdbkpdfaaGreatDoorArith
import Derived.Shelf.Strings.Builder1
import Derived.Shelf.Small.Utf8
import Derived.Shelf.Small.Bits
import Derived.Shelf.Small.Strs
import Derived.Shelf.Strings.BuilderF
import Derived.Shelf.Strings.BuilderK
import Derived.Shelf.Strings.BuilderRune
import Derived.Shelf.Utf8.AppendRunePlain
import Derived.Shelf.Strconv.Itoa0
import Derived.Shelf.Strconv.Itoa1
import Derived.Shelf.LaysM
import Derived.Shelf.Strconv.Itoa2
import Derived.Shelf.Strconv.Itoa3
import Derived.Shelf.Strconv.Clone
import Derived.Shelf.Strings.Search1
import Derived.Shelf.Strings.Prefix
import Derived.Shelf.Strings.Runes
import Derived.Shelf.Slices.Turned
import Derived.Test.YtdpakekdbkpdfaaGreatDoorPcondfi9e
import Derived.Test.YtdpakekdbkpdfaaGreatDoorPcondfi9d
import Derived.WalkKit
import Derived.Laws.Externs
import Derived.Lib.Builder
import Derived.Lib.UnsafeStr
import Derived.Lib.AppendStr
import Derived.Shelf.RegionOpenPlain
import Derived.Test.YtdpakekdbkpdfaaGreatDoorPcondfi9c
import Derived.Lib.ConvBytes
namespace Go.Proofs.YtdpakekdbkpdfaaGreatDoor.G
open Go.RowKit
set_option linter.unusedVariables false
set_option linter.unusedSimpArgs false
set_option maxRecDepth 100000
theorem KcC_is1_3 : Is1 Tryz.prog 3 := ⟨⟨_, Tryz.underlying3, rfl⟩, by kernel_rfl⟩
theorem KcC_is1_39 : Is1 Tryz.prog 39 := ⟨⟨_, Tryz.underlying39, rfl⟩, by kernel_rfl⟩
theorem KcC_fld_41_0 : FieldAt Tryz.prog 41 0 0 := ⟨_, _, Tryz.underlying41, rfl, rfl, by kernel_rfl⟩
theorem KcC_fld_41_1 : FieldAt Tryz.prog 41 1 1 := ⟨_, _, Tryz.underlying41, rfl, rfl, by kernel_rfl⟩
theorem KcC_isS_41 : IsS Tryz.prog 41 2 := ⟨⟨_, Tryz.underlying41⟩, by kernel_rfl⟩
theorem index3_any {w : World} {so : Option Addr} {ca : Nat} {ps : List Sp} (hPs : PR w so ps) (hl : ps.length ≤ 1000000000) {f : FuncId} {cs : List Value} {q : Sp → Bool} (hF : AskG (fun p : Sp => .agg p.c.toArray) Tryz.prog f cs w ps q) : Calls Tryz.prog 55 #[.slice so ps.length ca, .func (.func f) #[] cs.toArray] w fun e w' => e = .returned (.int .i64 (ixG q ps)) ∧ Below w.heap.size w w' := by
 have M : Mg w w ([]) := Mg.start w
 refine qr (l := [(0, .slice so ps.length ca), (1, .func (.func f) #[] cs.toArray)]) Tryz.func55 rfl Tryz.ntmps55 rfl rfl ?_
 intro Q hret hnorm hP a A
 refine wsk fun K1 hK1 => wrl (sda A λa A↦?_)
 refine qa (hK1 _ _ (wsk fun K2 hK2 => wsk fun K3 hK3 => wrl (sdm A λa A↦?_)))
 refine sdo A (ze Tryz.underlying34 rfl) λa A↦?_
 refine sdm A λa A↦?_
 refine qa (hK3 _ _ (wp_block (ja (fun m_ a w1 => ∃ (i : Nat), m_ = 1 + (ps.length - i) ∧ (i ≤ ps.length ∧ ∀ (j : Nat) u, j < i → ps[j]? = some u → q u = false) ∧ Sl a 19 [(0, .slice so ps.length ca), (1, .func (.func f) #[] cs.toArray), (6, .slice so ps.length ca), (7, .int .i64 (((ps.length : Nat) : Int))), (8, .int .i64 (((i : Nat) : Int)))] ∧ Mg w w1 ([])) _ ⟨0, rfl, ⟨Nat.zero_le _, fun j u h => absurd h (Nat.not_lt_zero _)⟩, A.keep _ ⟨rfl, rfl, rfl, rfl, rfl, trivial⟩, M⟩ ?_)))
 clear M A
 rintro m_ a w4 ⟨i, rfl, hinv6, A, M⟩ K5 hK5
 obtain ⟨hi0, hin9⟩ := hinv6
 refine wsk fun K7 hK7 => wrl ?_
 rcases tf (decide (((i : Nat) : Int) < ((ps.length : Nat) : Int))) with hb8 | hb8
 ·
  have hb8' := of_decide_eq_true hb8
  refine sdc A zl hb8 λa A↦?_
  refine qa (hK7 _ _ (wsk fun K9 hK9 => wp_cond_true (A.ev rfl) ?_))
  refine wp_skip (hK9 _ _ (wsk fun K10 hK10 => wp_block (wsk fun K11 hK11 => wrl (sdm A λa A↦?_))))
  refine sda A λa A↦?_
  refine qa (hK11 _ _ (wsk fun K12 hK12 => wrl ?_))
  iterate 3 refine sdm A λa A↦?_
  obtain ⟨sp13, bs14, os15, is16, ms17, rs18, ls19, Hs20⟩ := hPs.at_ (i := i) (by omega)
  refine sdo (v := .pointer (some ⟨bs14, os15 + i * 2, none⟩)) A (zp (k := i) Tryz.underlying34 (by kernel_rfl) rfl rfl (by first | rfl | omega) ls19 (by omega)) λa A↦?_
  refine sdo (v := .agg sp13.c.toArray) A (jp M Hs20 KcC_isS_41 rfl rfl) λa A↦?_
  rcases tf (q sp13) with hb21 | hb21
  ·
   refine xg A rfl rfl rfl (kv rfl rfl hF.inv) ((hb21 ▸ hF.run sp13 _ ms17 M.bel)) ?_
   rintro _ w23 ⟨rfl, hb22⟩
   replace M := M.call hb22
   refine ⟨_, rfl, ?_⟩
   intro a A
   refine qa (hK12 _ _ (wp_cond_true (A.ev rfl) ?_))
   refine wsk fun K24 hK24 => wrl (sdm A λa A↦?_)
   refine sda A λa A↦?_
   refine qa (hK24 _ _ (wp_ret (hret _ _ (en1 A rfl (qe rfl) ?_))))
   exact ⟨by rw [ixG_hit (p := q) hin9 is16 hb21], M.bel⟩
  ·
   refine xg A rfl rfl rfl (kv rfl rfl hF.inv) ((hb21 ▸ hF.run sp13 _ ms17 M.bel)) ?_
   rintro _ w26 ⟨rfl, hb25⟩
   replace M := M.call hb25
   refine ⟨_, rfl, ?_⟩
   intro a A
   refine qa (hK12 _ _ (wp_cond_false (A.ev rfl) ?_))
   refine wp_skip (hK10 _ _ (wrl (sdo (v := .int .i64 (((i + 1 : Nat) : Int))) A (qg rfl rfl (fun w => (jk (xj (by omega) (by omega)) w).trans (by rw [show (((i : Nat) : Int) + 1 : Int) = ((i + 1 : Nat) : Int) from by omega]))) λa A↦?_)))
   refine sdm A λa A↦?_
   refine qa ?_
   replace M : Mg w w26 ([]) := by
    have h9 := M.sub (.refl _)
    exact h9
   refine hK5 _ _ _ (by omega) ⟨i + 1, rfl, ⟨by omega, fun j u hj hu => if h9 : j < i then hin9 j u h9 hu else by have h8 : j = i := (by omega); subst h8; rw [is16] at hu; rw [← Option.some.inj hu]; exact hb21⟩, A.keep _ ⟨rfl, rfl, rfl, rfl, rfl, trivial⟩, M⟩
 ·
  have hb8' := of_decide_eq_false hb8
  refine sdc A zl hb8 λa A↦?_
  refine qa (hK7 _ _ (wsk fun K27 hK27 => wp_cond_false (A.ev rfl) ?_))
  refine wp_exit (hK2 _ _ (wsk fun K28 hK28 => wrl (sda A λa A↦?_)))
  refine qa (hK28 _ _ (wp_ret (hret _ _ (en1 A rfl (qe rfl) ?_))))
  exact ⟨by rw [ixG_miss (p := q) (fun j u hj => hin9 j u (by omega))], M.bel⟩
theorem fu1_any {w : World} {p : Sp} {gt : Nat} {t : Int} (hg : w.cell? ⟨gt, 0, none⟩ = some (.int .i64 t)) (ht : okT 20 p.ty = true) : Calls Tryz.prog 56 #[.agg p.c.toArray, .pointer (some ⟨gt, 0, none⟩)] w fun e w' => e = .returned (.bool (ke p.ty t)) ∧ Below w.heap.size w w' := by
 have hg9 : ∀ w1, Below w.heap.size w w1 → w1.cell? ⟨gt, 0, none⟩ = some (.int .i64 t) := fun w1 hb => (hb.cell (cell_lt hg)).trans hg
 have M : Mg w w ([]) := Mg.start w
 refine qr (l := [(0, .agg p.c.toArray), (1, .pointer (some ⟨gt, 0, none⟩))]) Tryz.func56 rfl Tryz.ntmps56 rfl rfl ?_
 intro Q hret hnorm hP a A
 refine wsk fun K1 hK1 => wrl (zg (vs := p.c) (t := 41) A M rfl rfl rfl pg (zd rfl rfl) (by decide) ?_)
 intro g2 w3 M a A
 refine sda A λa A↦?_
 refine qa (hK1 _ _ (wsk fun K4 hK4 => wrl (sdo (v := .pointer (some ⟨g2, 0, none⟩)) A (qb KcC_fld_41_0 rfl rfl) λa A↦?_)))
 refine sdo A (qi M KcC_is1_3 rfl 0 rfl rfl) λa A↦?_
 refine sdo A (qij (hg9 _ M.bel) KcC_is1_3 rfl) λa A↦?_
 refine gcl A M (ef rfl rfl) (qai ht) fun w5 hbu M a A => ?_
 refine sda A λa A↦?_
 refine qa (hK4 _ _ (wp_ret (hret _ _ (en1 A rfl (qe rfl) ?_))))
 exact ⟨rfl, M.bel⟩
theorem asks_fu {w : World} {ps : List Sp} {gt : Nat} {t : Int} (hg : w.cell? ⟨gt, 0, none⟩ = some (.int .i64 t)) (hO : ∀ p ∈ ps, okT 20 p.ty = true) : AskG (fun p : Sp => .agg p.c.toArray) Tryz.prog 56 [.pointer (some ⟨gt, 0, none⟩)] w ps (fun p => ke p.ty t) := ⟨fun us w => by kernel_rfl, fun p w1 hp hb => fu1_any ((hb.cell (cell_lt hg)).trans hg) (hO p hp)⟩
theorem first_or {w : World} {so : Option Addr} {ca : Nat} {ps : List Sp} (hPs : PR w so ps) (hl : ps.length ≤ 1000000000) (hO : ∀ p ∈ ps, okT 20 p.ty = true) {t : Int} : Calls Tryz.prog 31 #[.slice so ps.length ca, .int .i64 t] w fun e w' => ((∃ x9 : Sp, 0 ≤ fdI (ps.map Sp.k) t ∧ ps[(fdI (ps.map Sp.k) t).toNat]? = some x9 ∧ x9 ∈ ps ∧ SpR w x9 ∧ e = .returned (.tuple #[.agg x9.c.toArray, .bool true])) ∨ (¬ 0 ≤ fdI (ps.map Sp.k) t ∧ e = .returned (.tuple #[.agg zk.c.toArray, .bool false]))) ∧ Below w.heap.size w w' := by
 have M : Mg w w ([]) := Mg.start w
 refine qr (l := [(0, .slice so ps.length ca), (1, .int .i64 t)]) Tryz.func31 rfl Tryz.ntmps31 rfl rfl ?_
 intro Q hret hnorm hP a A
 refine wsk fun K1 hK1 => wrl (zg (vs := [.int .i64 t]) (t := 3) A M rfl rfl rfl pg (zd rfl rfl) (by decide) ?_)
 intro g2 w3 M a A
 refine zg (vs := zk.c) (t := 41) A M rfl rfl rfl pg (qk (z := .agg zk.c.toArray) (by kernel_rfl) rfl) (by decide) ?_
 intro g4 w5 M a A
 refine sda A λa A↦?_
 refine qa (hK1 _ _ (wsk fun K6 hK6 => wrl (sdm A λa A↦?_)))
 refine sdo (v := .func (.func 56) #[] [.pointer (some ⟨g2, 0, none⟩)].toArray) A (yd rfl) λa A↦?_
 refine gcl A M (ef rfl rfl) ((fdI_ps ps t ▸ index3_any (cs := [.pointer (some ⟨g2, 0, none⟩)]) (hPs.below M.bel) hl (asks_fu (M.cell 1 (vs := [.int .i64 t]) rfl 0 rfl) hO))) fun w8 hb7 M a A => ?_
 refine sda A λa A↦?_
 refine qa (hK6 _ _ (wsk fun K9 hK9 => wsk fun K10 hK10 => wrl (sdm A λa A↦?_)))
 rcases tf (decide (fdI (ps.map Sp.k) t < 0)) with hb11 | hb11
 ·
  have hb11' := of_decide_eq_true hb11
  refine sdc A zl hb11 λa A↦?_
  refine qa (hK10 _ _ (wp_cond_true (A.ev rfl) ?_))
  refine wsk fun K12 hK12 => wrl (sdo (v := .agg zk.c.toArray) A (qn rfl (fun w => by kernel_rfl)) λa A↦?_)
  refine qw (us := zk.c) (L' := (.obj g4 (.cells zk.c.toArray 41) :: .obj g2 (.cells #[.int .i64 t] 3) :: [])) A M rfl rfl (qj rfl rfl rfl (by kernel_rfl) M 0 rfl rfl rfl) 0 rfl rfl rfl ?_
  intro w13 M
  refine sda A λa A↦?_
  refine qa (hK12 _ _ (wp_ret (hret _ _ (en2 A rfl (zr M KcC_isS_41 rfl 0 rfl (cs := [.int .i64 0, .slice none 0 0]) rfl rfl) (qe rfl) ?_))))
  exact ⟨.inr ⟨by omega, rfl⟩, M.bel⟩
 ·
  have hb11' := of_decide_eq_false hb11
  refine sdc A zl hb11 λa A↦?_
  refine qa (hK10 _ _ (wp_cond_false (A.ev rfl) ?_))
  refine wp_skip (hK9 _ _ (wsk fun K14 hK14 => wrl ?_))
  iterate 2 refine sdm A λa A↦?_
  have hlt9 := ixG_lt (fun k : Int × List Tr => ke k.1 t) (ps.map Sp.k)
  rw [List.length_map] at hlt9
  replace hlt9 : -1 ≤ fdI (ps.map Sp.k) t ∧ fdI (ps.map Sp.k) t < ((ps.length : Nat) : Int) := hlt9
  obtain ⟨x9, bx9, ox9, ix9, mx9, rx9, lx9, Hx9⟩ := hPs.at_ (i := (fdI (ps.map Sp.k) t).toNat) (by omega)
  refine sdo (v := .pointer (some ⟨bx9, ox9 + (fdI (ps.map Sp.k) t).toNat * 2, none⟩)) A (zp (k := (fdI (ps.map Sp.k) t).toNat) Tryz.underlying34 (by kernel_rfl) rfl rfl (by first | rfl | omega) lx9 (by omega)) λa A↦?_
  refine sdo (v := .agg x9.c.toArray) A (jp M Hx9 KcC_isS_41 rfl rfl) λa A↦?_
  refine qw (us := x9.c) (L' := (.obj g4 (.cells x9.c.toArray 41) :: .obj g2 (.cells #[.int .i64 t] 3) :: [])) A M rfl rfl (qj rfl rfl rfl (by kernel_rfl) M 0 rfl rfl rfl) 0 rfl rfl rfl ?_
  intro w15 M
  refine sda A λa A↦?_
  refine qa (hK14 _ _ (wp_ret (hret _ _ (en2 A rfl (zr M KcC_isS_41 rfl 0 rfl (cs := [.int .i64 x9.ty, .slice x9.vo x9.vs.length x9.vc]) rfl rfl) (qe rfl) ?_))))
  exact ⟨.inl ⟨x9, by omega, ix9, mx9, rx9, rfl⟩, M.bel⟩
theorem qad {w : World} {so : Option Addr} {ca : Nat} {ps : List Sp} (hPs : PR w so ps) (hl : ps.length ≤ 1000000000) (hO : ∀ p ∈ ps, okT 20 p.ty = true) {t : Int} (h : decide (0 ≤ fdI (ps.map Sp.k) t) = true) : Calls Tryz.prog 31 #[.slice so ps.length ca, .int .i64 t] w fun e w' => ∃ x9 : Sp, e = .returned (.tuple #[.agg x9.c.toArray, .bool true]) ∧ (ps[(fdI (ps.map Sp.k) t).toNat]? = some x9 ∧ x9 ∈ ps ∧ SpR w x9) ∧ Below w.heap.size w w' := by
 refine (first_or hPs hl hO).mono ?_
 rintro e w' ⟨⟨x9, h0, h1, h2, h3, h4⟩ | ⟨h0, h1⟩, hb⟩
 ·
  exact ⟨x9, h4, ⟨h1, h2, h3⟩, hb⟩
 ·
  exact absurd (of_decide_eq_true h) h0
theorem qeg {w : World} {so : Option Addr} {ca : Nat} {ps : List Sp} (hPs : PR w so ps) (hl : ps.length ≤ 1000000000) (hO : ∀ p ∈ ps, okT 20 p.ty = true) {t : Int} (h : decide (0 ≤ fdI (ps.map Sp.k) t) = false) : Calls Tryz.prog 31 #[.slice so ps.length ca, .int .i64 t] w fun e w' => e = .returned (.tuple #[.agg zk.c.toArray, .bool false]) ∧ Below w.heap.size w w' := by
 refine (first_or hPs hl hO).mono ?_
 rintro e w' ⟨⟨x9, h0, h1, h2, h3, h4⟩ | ⟨h0, h1⟩, hb⟩
 ·
  exact absurd h0 (of_decide_eq_false h)
 ·
  exact ⟨h1, hb⟩
theorem ye {w : World} {p : Sp} (hp : SpR w p) (hb : Tr.bulks (p.vs.map Dt.tr) ≤ 100000000) : Calls Tryz.prog 30 #[.agg p.c.toArray] w fun e w' => ∃ p2 : Sp, e = .returned (.agg p2.c.toArray) ∧ (p2.k = p.k ∧ SpR w' p2 ∧ p2.at_ (w.heap.size ≤ ·)) ∧ Below w.heap.size w w' := by
 have M : Mg w w ([]) := Mg.start w
 refine qr (l := [(0, .agg p.c.toArray)]) Tryz.func30 rfl Tryz.ntmps30 rfl rfl ?_
 intro Q hret hnorm hP a A
 refine wsk fun K1 hK1 => wrl (zg (vs := p.c) (t := 41) A M rfl rfl rfl pg (zd rfl rfl) (by decide) ?_)
 intro g2 w3 M a A
 refine zg (vs := zk.c) (t := 41) A M rfl rfl rfl pg (qk (z := .agg zk.c.toArray) (by kernel_rfl) rfl) (by decide) ?_
 intro g4 w5 M a A
 refine qa (hK1 _ _ (wsk fun K6 hK6 => xh (S := fun w1 => Mg w w1 (.obj g2 (.cells p.c.toArray 41) :: [])) (by kernel_rfl) ?_))
 replace M := M.drew
 refine qm (v := .pointer (some ⟨g2, 0, none⟩)) A 0 rfl rfl rfl rfl hP (M.sub (cn (cc (List.nil_sublist _)))) (fun w1 M => qb KcC_fld_41_0 rfl rfl) λa A↦?_
 refine qm A 1 rfl rfl rfl rfl hP (M.sub (cn (cc (List.nil_sublist _)))) (fun w1 M => qi M KcC_is1_3 rfl 0 rfl rfl) λa A↦?_
 refine qm (v := .pointer (some ⟨g2, 1, none⟩)) A 2 rfl rfl rfl rfl hP (M.sub (cn (cc (List.nil_sublist _)))) (fun w1 M => qb KcC_fld_41_1 rfl rfl) λa A↦?_
 refine qm A 3 rfl rfl rfl rfl hP (M.sub (cn (cc (List.nil_sublist _)))) (fun w1 M => qi M KcC_is1_39 rfl 0 rfl rfl) λa A↦?_
 have hlt7 := (Ck.lt (M.has 0 rfl) g4 rfl).2
 have hlt8 := (Ck.lt (M.has 1 rfl) g2 rfl).2
 have hz6 := M.bel.size
 refine zy (by kernel_rfl) (jj A 4 rfl rfl rfl rfl (zf rfl rfl (fun w => by kernel_rfl)) (qab (fun t _ => xr t) (hp.v.below M.bel) (fun t ht => Dt.keep M.bel _ (hp.d t ht)) (by omega)) ?_)
 rintro _ w9 ⟨v6, us, rfl, ⟨htr, hus⟩, hM6⟩
 obtain ⟨lo6, lc6, rfl⟩ := jr (hM6.has 0 rfl)
 replace M : Mg w w9 (.row 53 11 (.slice lo6 us.length lc6) us.length (cellsOf us) :: .obj g4 (.cells zk.c.toArray 41) :: .obj g2 (.cells p.c.toArray 41) :: []) := (M.both hM6 (qf (by simp) (qf (by simp) (qp qy))) (qf (by simp) (qp qy)))
 refine ⟨_, rfl, (M.sub (cn (cn (cc (List.nil_sublist _))))), ?_⟩
 intro a A
 refine qm (v := .agg #[.int .i64 p.ty, .slice lo6 us.length lc6]) A 5 rfl rfl rfl rfl hP (M.sub (cn (cn (cc (List.nil_sublist _))))) (fun w1 M => qn rfl (fun w => by kernel_rfl)) λa A↦?_
 refine zy (by kernel_rfl) (qdc (us := [.int .i64 p.ty, .slice lo6 us.length lc6]) (L' := (.row 53 11 (.slice lo6 us.length lc6) us.length (cellsOf us) :: .obj g4 (.cells #[.int .i64 p.ty, .slice lo6 us.length lc6] 41) :: .obj g2 (.cells p.c.toArray 41) :: [])) A M 6 rfl rfl rfl (qj rfl rfl rfl (by kernel_rfl) M 1 rfl rfl rfl) 1 rfl rfl rfl ?_)
 intro w10 M hK11
 have hu9 : ∀ t ∈ us, t.rd w10 := fun t ht => Dt.kept hK11 _ (hus t ht).1 (Dt.at_mono (fun b hb => by rintro rfl; have := hb.1; omega) _ (hus t ht).2)
 refine ⟨(M.sub (cn (cn (cc (List.nil_sublist _))))), ?_⟩
 refine jo (by kernel_rfl) ?_
 refine hK6 _ _ (wp_ret (hret _ _ (en1 A rfl (zr M KcC_isS_41 rfl 1 rfl (cs := [.int .i64 p.ty, .slice lo6 us.length lc6]) rfl rfl) ?_)))
 have ho9 := vg (M.has 0 rfl)
 exact ⟨⟨p.ty, lo6, lc6, us⟩, rfl, ⟨Prod.ext rfl htr, ⟨ho9.1, hu9⟩, ⟨uu (M.has 0 rfl) _, fun t ht => Dt.at_mono (fun b hb => Nat.le_trans hz6 hb.1) _ (hus t ht).2⟩⟩, M.bel⟩
theorem qeh {w : World} {so : Option Addr} {ca : Nat} {ps : List Sp} (hPs : PR w so ps) (hB : PB ps) (hl : ps.length ≤ 1000000000) (hT : Tabs8 w) {t : Int} : Calls Tryz.prog 18 #[.slice so ps.length ca, .int .i64 t] w fun e w' => ∃ p2 : Sp, e = .returned (.tuple #[.agg p2.c.toArray, .int .i64 (fdS (ps.map Sp.k) t).2]) ∧ (p2.k = (fdS (ps.map Sp.k) t).1 ∧ SpR w' p2 ∧ p2.at_ (w.heap.size ≤ ·)) ∧ Below w.heap.size w w' := by
 have M : Mg w w ([]) := Mg.start w
 refine qr (l := [(0, .slice so ps.length ca), (1, .int .i64 t)]) Tryz.func18 rfl Tryz.ntmps18 rfl rfl ?_
 intro Q hret hnorm hP a A
 refine wsk fun K1 hK1 => wrl (zg (vs := zk.c) (t := 41) A M rfl rfl rfl pg (qk (z := .agg zk.c.toArray) (by kernel_rfl) rfl) (by decide) ?_)
 intro g2 w3 M a A
 refine sda A λa A↦?_
 refine qa (hK1 _ _ (wsk fun K4 hK4 => wsk fun K5 hK5 => wrl (sdm A λa A↦?_)))
 refine gcl A M (ef rfl rfl) (qac (hPs.below M.bel) hB hl (hT.below M.bel)) fun w7 hb6 M a A => ?_
 refine sda A λa A↦?_
 refine qa (hK5 _ _ (wsk fun K8 hK8 => wrl (sdm A λa A↦?_)))
 rcases tf ((ckC (ps.map Sp.k) != 0)) with hb9 | hb9
 ·
  have hb9' := bne_iff_ne.1 hb9
  refine sdc A zm hb9 λa A↦?_
  refine qa (hK8 _ _ (wp_cond_true (A.ev rfl) ?_))
  refine wsk fun K10 hK10 => wrl (sdo (v := .agg zk.c.toArray) A (qn rfl (fun w => by kernel_rfl)) λa A↦?_)
  refine sdm A λa A↦?_
  refine qw (us := zk.c) (L' := (.obj g2 (.cells zk.c.toArray 41) :: [])) A M rfl rfl (qj rfl rfl rfl (by kernel_rfl) M 0 rfl rfl rfl) 0 rfl rfl rfl ?_
  intro w11 M
  refine sda A λa A↦?_
  refine qa (hK10 _ _ (wp_ret (hret _ _ (en2 A rfl (zr M KcC_isS_41 rfl 0 rfl (cs := [.int .i64 0, .slice none 0 0]) rfl rfl) (qe rfl) ?_))))
  exact ⟨zk, by rw [qjd hb9'] <;> rfl, ⟨by rw [qjd hb9'] <;> rfl, qjg _, qeb _⟩, M.bel⟩
 ·
  have hb9' := bne_eq_false_iff_eq.1 hb9
  refine sdc A zm hb9 λa A↦?_
  refine qa (hK8 _ _ (wp_cond_false (A.ev rfl) ?_))
  refine wp_skip (hK4 _ _ (wsk fun K12 hK12 => wsk fun K13 hK13 => wrl (sdm A λa A↦?_)))
  rcases tf (okT 20 t) with hb14 | hb14
  ·
   refine gcl A M (ef rfl rfl) ((hb14 ▸ js)) fun w16 hb15 M a A => ?_
   refine sdo (v := .bool false) A (zb rfl zn) λa A↦?_
   refine qa (hK13 _ _ (wp_cond_false (A.ev rfl) ?_))
   refine wp_skip (hK12 _ _ (wsk fun K17 hK17 => wrl ?_))
   iterate 2 refine sdm A λa A↦?_
   rcases tf (decide (0 ≤ fdI (ps.map Sp.k) t)) with hb18 | hb18
   ·
    have hb18' := of_decide_eq_true hb18
    refine sct A (ef rfl rfl) (qad (hPs.below M.bel) hl (qec (show ckC (ps.map Sp.k) = 0 by omega)) hb18) ?_
    rintro _ w20 ⟨x9, rfl, ⟨ix9, mx9, rx9⟩, hb19⟩
    replace rx9 := hPs.own _ mx9
    replace M := M.call hb19
    refine ⟨_, rfl, ?_⟩
    intro a A
    refine sdm A λa A↦?_
    iterate 2 refine sdo A (ql (vs := [.agg x9.c.toArray, .bool true]) rfl rfl) λa A↦?_
    refine zg (vs := zk.c) (t := 41) A M rfl rfl rfl pg (qk (z := .agg zk.c.toArray) (by kernel_rfl) rfl) (by decide) ?_
    intro g21 w22 M a A
    refine qw (us := x9.c) (L' := (.obj g21 (.cells x9.c.toArray 41) :: .obj g2 (.cells zk.c.toArray 41) :: [])) A M rfl rfl (qj rfl rfl rfl (by kernel_rfl) M 0 rfl rfl rfl) 0 rfl rfl rfl ?_
    intro w23 M
    refine sda A λa A↦?_
    refine qa (hK17 _ _ (wsk fun K24 hK24 => wsk fun K25 hK25 => wrl (sdm A λa A↦?_)))
    refine sdo (v := .bool false) A (zb rfl zn) λa A↦?_
    refine qa (hK25 _ _ (wp_cond_false (A.ev rfl) ?_))
    refine wp_skip (hK24 _ _ (wsk fun K26 hK26 => wrl (sdo A (za M KcC_isS_41 rfl 0 rfl (cs := x9.c) rfl rfl) λa A↦?_)))
    have hlt27 := (Ck.lt (M.has 0 rfl) g21 rfl).2
    have hlt28 := (Ck.lt (M.has 1 rfl) g2 rfl).2
    have hz9 := M.bel.size
    refine sct A (ef rfl rfl) (ye (rx9.below M.bel) (hB _ mx9)) ?_
    rintro _ w30 ⟨p2, rfl, ⟨hk2, hr2, ha2⟩, hb29⟩
    replace M := M.call hb29
    refine ⟨_, rfl, ?_⟩
    intro a A
    refine xw (us := p2.c) (L' := (.obj g21 (.cells x9.c.toArray 41) :: .obj g2 (.cells p2.c.toArray 41) :: [])) A M rfl rfl (qj rfl rfl rfl (by kernel_rfl) M 1 rfl rfl rfl) 1 rfl rfl rfl ?_
    intro w31 M hK32
    replace hr2 := hr2.kept (ha2.mono (fun b9 hb9 => by rintro rfl; omega)) hK32
    refine sda A λa A↦?_
    refine qa (hK26 _ _ (wp_ret (hret _ _ (en2 A rfl (zr M KcC_isS_41 rfl 1 rfl (cs := [.int .i64 p2.ty, .slice p2.vo p2.vs.length p2.vc]) rfl rfl) (qe rfl) ?_))))
    exact ⟨p2, by rw [qje (show ckC (ps.map Sp.k) = 0 by omega) hb14 (of_decide_eq_true hb18) (yj ix9)] <;> rfl, ⟨by rw [qje (show ckC (ps.map Sp.k) = 0 by omega) hb14 (of_decide_eq_true hb18) (yj ix9)]; exact hk2, hr2, ha2.mono (fun b9 hb9 => Nat.le_trans hz9 hb9)⟩, M.bel⟩
   ·
    have hb18' := of_decide_eq_false hb18
    refine gcl A M (ef rfl rfl) (qeg (hPs.below M.bel) hl (qec (show ckC (ps.map Sp.k) = 0 by omega)) hb18) fun w34 hb33 M a A => ?_
    refine sdm A λa A↦?_
    iterate 2 refine sdo A (ql (vs := [.agg zk.c.toArray, .bool false]) rfl rfl) λa A↦?_
    refine zg (vs := zk.c) (t := 41) A M rfl rfl rfl pg (qk (z := .agg zk.c.toArray) (by kernel_rfl) rfl) (by decide) ?_
    intro g35 w36 M a A
    refine qw (us := zk.c) (L' := (.obj g35 (.cells zk.c.toArray 41) :: .obj g2 (.cells zk.c.toArray 41) :: [])) A M rfl rfl (qj rfl rfl rfl (by kernel_rfl) M 0 rfl rfl rfl) 0 rfl rfl rfl ?_
    intro w37 M
    refine sda A λa A↦?_
    refine qa (hK17 _ _ (wsk fun K38 hK38 => wsk fun K39 hK39 => wrl (sdm A λa A↦?_)))
    refine sdo (v := .bool true) A (zb rfl zn) λa A↦?_
    refine qa (hK39 _ _ (wp_cond_true (A.ev rfl) ?_))
    refine wsk fun K40 hK40 => wrl (sdo (v := .agg zk.c.toArray) A (qn rfl (fun w => by kernel_rfl)) λa A↦?_)
    refine qw (us := zk.c) (L' := (.obj g35 (.cells zk.c.toArray 41) :: .obj g2 (.cells zk.c.toArray 41) :: [])) A M rfl rfl (qj rfl rfl rfl (by kernel_rfl) M 1 rfl rfl rfl) 1 rfl rfl rfl ?_
    intro w41 M
    refine sda A λa A↦?_
    refine qa (hK40 _ _ (wp_ret (hret _ _ (en2 A rfl (zr M KcC_isS_41 rfl 1 rfl (cs := [.int .i64 0, .slice none 0 0]) rfl rfl) (qe rfl) ?_))))
    exact ⟨zk, by rw [qea (show ckC (ps.map Sp.k) = 0 by omega) hb14 (of_decide_eq_false hb18)] <;> rfl, ⟨by rw [qea (show ckC (ps.map Sp.k) = 0 by omega) hb14 (of_decide_eq_false hb18)] <;> rfl, qjg _, qeb _⟩, M.bel⟩
  ·
   refine gcl A M (ef rfl rfl) ((hb14 ▸ js)) fun w43 hb42 M a A => ?_
   refine sdo (v := .bool true) A (zb rfl zn) λa A↦?_
   refine qa (hK13 _ _ (wp_cond_true (A.ev rfl) ?_))
   refine wsk fun K44 hK44 => wrl (sdo (v := .agg zk.c.toArray) A (qn rfl (fun w => by kernel_rfl)) λa A↦?_)
   refine qw (us := zk.c) (L' := (.obj g2 (.cells zk.c.toArray 41) :: [])) A M rfl rfl (qj rfl rfl rfl (by kernel_rfl) M 0 rfl rfl rfl) 0 rfl rfl rfl ?_
   intro w45 M
   refine sda A λa A↦?_
   refine qa (hK44 _ _ (wp_ret (hret _ _ (en2 A rfl (zr M KcC_isS_41 rfl 0 rfl (cs := [.int .i64 0, .slice none 0 0]) rfl rfl) (qe rfl) ?_))))
   exact ⟨zk, by rw [qdj (show ckC (ps.map Sp.k) = 0 by omega) hb14] <;> rfl, ⟨by rw [qdj (show ckC (ps.map Sp.k) = 0 by omega) hb14] <;> rfl, qjg _, qeb _⟩, M.bel⟩
section
variable {P : Program} {w0 w : World} {L : List Ck} {l : List (Nat × Value)} {dst : Option Tmp} {ty : TypeId} {pos : String} {after : Array Edge} {guard : Option (Nat × Bool)} {v : Value} {ops : List Oper} {Q : Exit → Act → World → Prop} {a : Act} {n : Nat} {o : Oper} {rest : List Oper}
theorem row_at0 (hM : Mg w0 w L) (k : Nat) {e : TypeId} {sz n cap : Nat} {so : Option Addr} {xs : List Value} (hk : L[k]? = some (.row e sz (.slice so n cap) n xs)) : ∃ g, 0 < n → so = some ⟨g, 0, none⟩ := by
  rcases (hM.has k hk).2 with ⟨_, h0⟩ | ⟨g, cap', cur, he, _⟩
  · exact ⟨0, fun h => by omega⟩
  · cases he; exact ⟨g, fun _ => rfl⟩
theorem qba {t e : TypeId} {sz : Nat} (hu : P.underlying t = some (.slice e)) (he : (P.info? e).map (·.size) = some sz) {x i : Operand} {so : Option Addr} {g n c k : Nat} {z : Int} (hx : ev l x = some (.slice so n c)) (hi : ev l i = some (.int .i64 z)) (hz : z = (k : Nat)) (hso : so = some ⟨g, 0, none⟩) (hk : k < n) : Does P l ⟨dst, .indexAddr t x i, ty, pos, after, guard⟩ w (.pointer (some ⟨g, k * sz, none⟩)) w := by
  subst hso
  exact vj hu he hx hi hz hk
theorem m_loadOS (hM : Mg w0 w L) (k : Nat) {e : TypeId} {sz g n c o m : Nat} {so : Option Addr} {xs cs : List Value} (hk : L[k]? = some (.row e sz (.slice so n c) n xs)) (hso : so = some ⟨g, 0, none⟩) {t : TypeId} (ht : IsS P t m) (hcs : (xs.drop o).take m = cs) (hl : cs.length = m) {x : Operand} (hx : ev l x = some (.pointer (some ⟨g, o, none⟩))) : Does P l ⟨dst, .load t x, ty, pos, after, guard⟩ w (.agg cs.toArray) w := by
  subst hso
  exact qla hM k hk ht hcs hl hx
theorem m_storeX {t : TypeId} {x y : Operand} {g q : Nat} {u : Value} {cs : List Value} {so : Option Addr} (hso : so = some ⟨g, 0, none⟩) (hx : ev l x = some (.pointer (some ⟨g, q, none⟩))) (hy : ev l y = some u) (hc : u.cells = cs.toArray) (hn : (P.info? t).map (·.size) = some cs.length) (hM : Mg w0 w L) (k : Nat) {e : TypeId} {sz m cap : Nat} {xs : List Value} (hk0 : L[k]? = some (.row e sz (.slice so m cap) m xs)) (hl : q + cs.length ≤ m * sz) (h1 : cs.all Value.oneCell' = true) : Sets P l ⟨dst, .store t x y, ty, pos, after, guard⟩ w (w.setCells g q cs) := by
  subst hso
  exact qda hx hy hc hn hM k hk0 hl h1
theorem s_storeRX (hA : Sl a n l) (hM : Mg w0 w L) (hg : zi l ops o = true) (hdst : o.dst = none) {g q m cap : Nat} {cs xs us : List Value} {e : TypeId} {sz : Nat} {so : Option Addr} (he : Sets P l o w (w.setCells g q cs)) (hso : so = some ⟨g, 0, none⟩) (k : Nat) (hk0 : L[k]? = some (.row e sz (.slice so m cap) m xs)) (hus : over xs q cs = us) {L' : List Ck} (hL : L.set k (.row e sz (.slice so m cap) m us) = L')
    (hk : ∀ w', Mg w0 w' L' → Kept (· ≠ g) w w' → wpList P ops.toArray Q rest a w') : wpList P ops.toArray Q (o :: rest) a w := by
  subst hso
  exact uw hA hM hg hdst he k hk0 hus hL hk
end
theorem KcD_is1_34 : Is1 Tryz.prog 34 := ⟨⟨_, Tryz.underlying34, rfl⟩, by kernel_rfl⟩
theorem KcD_isS_41 : IsS Tryz.prog 41 2 := ⟨⟨_, Tryz.underlying41⟩, by kernel_rfl⟩
theorem join_any {w : World} {lo : Option Addr} {lc : Nat} {ls : List Cn} (hC : CR w lo ls) (hB : PB (zx ls)) (hl : ls.length ≤ 1000000000) (hln : ∀ c ∈ ls, c.ps.length ≤ 900000000) (hT : Tabs8 w) : Calls Tryz.prog 15 #[.slice lo ls.length lc] w fun e w' => ∃ (so' : Option Addr) (ca' : Nat) (cs : List Sp) (ev : Int), e = .returned (.tuple #[.slice so' cs.length ca', .int .i64 ev]) ∧ (ev = ckC ((zx ls).map Sp.k) ∧ cs.map Sp.k = (if ckC ((zx ls).map Sp.k) = 0 then ((zx ls).map Sp.k) else []) ∧ PR w' so' cs ∧ In (w.heap.size ≤ ·) so' cs ∧ ∀ p ∈ cs, p.at_ (w.heap.size ≤ ·)) ∧ Below w.heap.size w w' := by
 have hW : ∀ p ∈ zx ls, SpR w p := fun p hp => (by obtain ⟨c, hc, hp⟩ := allP_mem hp; exact (hC.own c hc).own p hp)
 have M : Mg w w ([]) := Mg.start w
 refine qr (l := [(0, .slice lo ls.length lc)]) Tryz.func15 rfl Tryz.ntmps15 rfl rfl ?_
 intro Q hret hnorm hP a A
 refine wsk fun K1 hK1 => wrl ?_
 iterate 2 refine sda A λa A↦?_
 refine qa (hK1 _ _ (wsk fun K2 hK2 => wrl (sda A λa A↦?_)))
 refine qa (hK2 _ _ (wsk fun K3 hK3 => wsk fun K4 hK4 => wrl (sdm A λa A↦?_)))
 refine sdo A (ze Tryz.underlying33 rfl) λa A↦?_
 refine sdm A λa A↦?_
 refine qa (hK4 _ _ (wp_block ?_))
 replace M := M.nilRow (qp qy) 41 2
 refine ja (fun m_ a w1 => ∃ (i : Nat) (so9 : Option Addr) (ca9 : Nat), m_ = 1 + (ls.length - i) ∧ (i ≤ ls.length ∧ (zx (ls.take i)).length ≤ 16) ∧ Sl a 42 [(0, .slice lo ls.length lc), (4, .slice so9 ((zx (ls.take i)).length) ca9), (10, .slice lo ls.length lc), (11, .int .i64 (((ls.length : Nat) : Int))), (12, .int .i64 (((i : Nat) : Int)))] ∧ Mg w w1 (.row 41 2 (.slice so9 ((zx (ls.take i)).length) ca9) ((zx (ls.take i)).length) (zh Sp.c (zx (ls.take i))) :: [])) _ ⟨0, none, 0, rfl, ⟨Nat.zero_le _, Nat.zero_le _⟩, A.keep _ ⟨rfl, rfl, rfl, rfl, rfl, trivial⟩, M⟩ ?_
 clear M A
 rintro m_ a w5 ⟨i, so9, ca9, rfl, hinv7, A, M⟩ K6 hK6
 obtain ⟨hi0, hw16⟩ := hinv7
 refine wsk fun K8 hK8 => wrl ?_
 rcases tf (decide (((i : Nat) : Int) < ((ls.length : Nat) : Int))) with hb9 | hb9
 ·
  have hb9' := of_decide_eq_true hb9
  refine sdc A zl hb9 λa A↦?_
  refine qa (hK8 _ _ (wsk fun K10 hK10 => wp_cond_true (A.ev rfl) ?_))
  refine wp_skip (hK10 _ _ (wsk fun K11 hK11 => wp_block (wsk fun K12 hK12 => wrl ?_)))
  obtain ⟨cn13, bc14, oc15, ic16, mc17, rc18, lc19, Hc20⟩ := hC.at_ (i := i) (by omega)
  have hcl := hln cn13 mc17
  refine sdo (v := .pointer (some ⟨bc14, oc15 + i * 1, none⟩)) A (zp (k := i) Tryz.underlying33 (by kernel_rfl) rfl rfl (by first | rfl | omega) lc19 (by omega)) λa A↦?_
  refine sdo A (kw (j := 0) M Hc20 KcD_is1_34 rfl rfl rfl) λa A↦?_
  refine sda A λa A↦?_
  refine qa (hK12 _ _ (wsk fun K21 hK21 => wrl ?_))
  iterate 2 refine sdm A λa A↦?_
  refine xn (e := 41) (sz := 2) (k := 0) (q := (zx (ls.take i)).length) (m := cn13.ps.length) (xs := zh Sp.c (zx (ls.take i))) (news := zh Sp.c cn13.ps) (L' := fun v22 => (.row 41 2 (v22) ((zx (ls.take i)).length + cn13.ps.length) (zh Sp.c (zx (ls.take i)) ++ zh Sp.c cn13.ps) :: [])) A rfl rfl rfl (vm (z := .agg #[.int .i64 0, .slice none 0 0]) (sz := 2) (by_ := 32) Tryz.underlying34 (by kernel_rfl) rfl rfl rfl M 0 rfl rfl rfl (kp qdh cn13.ps) (rc18.row.below M.bel) (qjc cn13.ps) (by omega)) (fun _ => rfl) ?_
  intro v22 w23 M a A
  replace M : Mg w w23 (.row 41 2 (v22) ((zx (ls.take (i + 1))).length) (zh Sp.c (zx (ls.take (i + 1)))) :: []) := by
   rw [allP_snoc ic16, xf, List.length_append]; exact M
  obtain ⟨so24, ca25, rfl⟩ := jr (M.has 0 rfl)
  refine sda A λa A↦?_
  refine qa (hK21 _ _ (wsk fun K26 hK26 => wrl (sdm A λa A↦?_)))
  refine sdo A (ze Tryz.underlying34 rfl) λa A↦?_
  rcases tf (decide (16 < (((zx (ls.take (i + 1))).length : Nat) : Int))) with hb27 | hb27
  ·
   have hb27' := of_decide_eq_true hb27
   refine sdc A xy hb27 λa A↦?_
   refine qa (hK26 _ _ (wp_cond_true (A.ev rfl) ?_))
   refine wsk fun K28 hK28 => wrl ?_
   iterate 2 refine sda A λa A↦?_
   refine qa (hK28 _ _ (wp_ret (hret _ _ (en2 A rfl (qe rfl) (qe rfl) ?_))))
   have hle := allP_take ls (i + 1)
   have h4 : ckC ((zx ls).map Sp.k) = 4 := qhb (by rw [List.length_map]; omega)
   exact ⟨none, 0, [], 4, rfl, ⟨h4.symm, by rw [h4]; rfl, ⟨fun h => absurd rfl h, fun p h => by cases h⟩, (fun h => absurd rfl h), fun p h => by cases h⟩, M.bel⟩
  ·
   have hb27' := of_decide_eq_false hb27
   refine sdc A xy hb27 λa A↦?_
   refine qa (hK26 _ _ (wp_cond_false (A.ev rfl) ?_))
   refine wp_skip (hK11 _ _ (wrl (sdo (v := .int .i64 (((i + 1 : Nat) : Int))) A (qg rfl rfl (fun w => (jk (xj (by omega) (by omega)) w).trans (by rw [show (((i : Nat) : Int) + 1 : Int) = ((i + 1 : Nat) : Int) from by omega]))) λa A↦?_)))
   refine sdm A λa A↦?_
   refine qa ?_
   replace M : Mg w w23 (.row 41 2 (.slice so24 ((zx (ls.take (i + 1))).length) ca25) ((zx (ls.take (i + 1))).length) (zh Sp.c (zx (ls.take (i + 1)))) :: []) := by
    have h9 := M.sub (cc (.refl _))
    exact h9
   refine hK6 _ _ _ (by omega) ⟨i + 1, so24, ca25, rfl, ⟨by omega, by omega⟩, A.keep _ ⟨rfl, rfl, rfl, rfl, rfl, trivial⟩, M⟩
 ·
  have hb9' := of_decide_eq_false hb9
  refine sdc A zl hb9 λa A↦?_
  refine qa (hK8 _ _ (wsk fun K29 hK29 => wp_cond_false (A.ev rfl) ?_))
  refine wp_exit (hK3 _ _ (wsk fun K30 hK30 => wsk fun K31 hK31 => wrl (sdm A λa A↦?_)))
  refine gcl A M (ef rfl rfl) (qac (ps := (zx (ls.take i))) ⟨xq (M.has 0 rfl), fun p hp => (hW p (ue hp)).below M.bel⟩ (fun p hp => hB p (ue hp)) (by omega) (hT.below M.bel)) fun w33 hb32 M a A => ?_
  refine sda A λa A↦?_
  refine qa (hK31 _ _ (wsk fun K34 hK34 => wrl (sdm A λa A↦?_)))
  rcases tf ((ckC ((zx (ls.take i)).map Sp.k) != 0)) with hb35 | hb35
  ·
   have hb35' := bne_iff_ne.1 hb35
   refine sdc A zm hb35 λa A↦?_
   refine qa (hK34 _ _ (wp_cond_true (A.ev rfl) ?_))
   refine wsk fun K36 hK36 => wrl (sdm A λa A↦?_)
   iterate 2 refine sda A λa A↦?_
   refine qa (hK36 _ _ (wp_ret (hret _ _ (en2 A rfl (qe rfl) (qe rfl) ?_))))
   have e8 : ls.take i = ls := List.take_of_length_le (by omega)
   rw [e8] at hb35'
   exact ⟨none, 0, [], _, rfl, ⟨by rw [e8], by rw [if_neg hb35']; rfl, ⟨fun h => absurd rfl h, fun p h => by cases h⟩, (fun h => absurd rfl h), fun p h => by cases h⟩, M.bel⟩
  ·
   have hb35' := bne_eq_false_iff_eq.1 hb35
   refine sdc A zm hb35 λa A↦?_
   refine qa (hK34 _ _ (wp_cond_false (A.ev rfl) ?_))
   refine wp_skip (hK30 _ _ (wsk fun K37 hK37 => wsk fun K38 hK38 => wrl (sdm A λa A↦?_)))
   refine sdo A (ze Tryz.underlying34 rfl) λa A↦?_
   refine sdm A λa A↦?_
   refine qa (hK38 _ _ (wp_block ?_))
   replace M : Mg w w33 (.row 41 2 (.slice so9 ((zx (ls.take i)).length) ca9) ((zx (ls.take i)).length) (zh Sp.c (zx (ls.take i))) :: []) := by
    have h9 := M.sub (cc (.refl _))
    exact h9
   obtain ⟨g9, hg9⟩ := row_at0 M 0 rfl
   refine ja (fun m_ a w1 => ∃ (j : Nat) (cs : List Sp), m_ = 1 + ((zx (ls.take i)).length - j) ∧ (j ≤ (zx (ls.take i)).length ∧ cs.length = j ∧ cs.map Sp.k = ((zx (ls.take i)).take j).map Sp.k ∧ SpOk w.heap.size g9 w1 cs) ∧ Sl a 42 [(0, .slice lo ls.length lc), (4, .slice so9 ((zx (ls.take i)).length) ca9), (7, .int .i64 (ckC ((zx (ls.take i)).map Sp.k))), (10, .slice lo ls.length lc), (11, .int .i64 (((ls.length : Nat) : Int))), (12, .int .i64 (((i : Nat) : Int))), (13, .bool false), (23, .slice so9 ((zx (ls.take i)).length) ca9), (24, .int .i64 (ckC ((zx (ls.take i)).map Sp.k))), (25, .int .i64 (ckC ((zx (ls.take i)).map Sp.k))), (26, .bool false), (28, .slice so9 ((zx (ls.take i)).length) ca9), (29, .int .i64 ((((zx (ls.take i)).length : Nat) : Int))), (30, .int .i64 (((j : Nat) : Int)))] ∧ Mg w w1 (.row 41 2 (.slice so9 ((zx (ls.take i)).length) ca9) ((zx (ls.take i)).length) (zh Sp.c (cs ++ (zx (ls.take i)).drop j)) :: [])) _ ⟨0, [], rfl, ⟨Nat.zero_le _, rfl, rfl, spok_nil⟩, A.keep _ (by repeat' constructor), M⟩ ?_
   clear M A
   rintro m_ a w39 ⟨j, cs, rfl, hinv41, A, M⟩ K40 hK40
   obtain ⟨hj0, hcl2, htr, hcs⟩ := hinv41
   refine wsk fun K42 hK42 => wrl ?_
   rcases tf (decide (((j : Nat) : Int) < (((zx (ls.take i)).length : Nat) : Int))) with hb43 | hb43
   ·
    have hb43' := of_decide_eq_true hb43
    refine sdc A zl hb43 λa A↦?_
    refine qa (hK42 _ _ (wsk fun K44 hK44 => wp_cond_true (A.ev rfl) ?_))
    refine wp_skip (hK44 _ _ (wsk fun K45 hK45 => wp_block (wsk fun K46 hK46 => ?_)))
    obtain ⟨t1, i1, m1, it1⟩ := sat_row hcl2 (show j < (zx (ls.take i)).length by omega)
    have hso9 := hg9 (by omega)
    refine wrl (sdm A λa A↦?_)
    refine sdo (v := .pointer (some ⟨g9, j * 2, none⟩)) A (qba (k := j) Tryz.underlying34 (by kernel_rfl) rfl rfl rfl hso9 (by omega)) λa A↦?_
    refine sdo A (m_loadOS (o := j * 2) (cs := t1.c) M 0 rfl hso9 KcD_isS_41 (qce qdh it1) rfl rfl) λa A↦?_
    refine qii (vs := zk.c) (t := 41) A M rfl rfl rfl pg (qk (z := .agg zk.c.toArray) (by kernel_rfl) rfl) (by decide) ?_
    intro g47 w48 M hg49 hb50 a A
    refine sda A λa A↦?_
    refine xw (us := t1.c) (L' := (.obj g47 (.cells t1.c.toArray 41) :: .row 41 2 (.slice so9 ((zx (ls.take i)).length) ca9) ((zx (ls.take i)).length) (zh Sp.c (cs ++ (zx (ls.take i)).drop j)) :: [])) A M rfl rfl (qj rfl rfl rfl (by kernel_rfl) M 0 rfl rfl rfl) 0 rfl rfl rfl ?_
    intro w51 M hK52
    replace hcs := hcs.new hg49 hb50 hK52
    refine qa (hK46 _ _ (wrl ?_))
    iterate 2 refine sdm A λa A↦?_
    refine sdo A (za M KcD_isS_41 rfl 0 rfl (cs := t1.c) rfl rfl) λa A↦?_
    have hltg := (Ck.lt (M.has 1 rfl) g9 (by rw [hso9]; rfl)).2
    have hsz := M.bel.size
    refine sct A (ef rfl rfl) (ye ((hW _ (ue m1)).below M.bel) (hB _ (ue m1))) ?_
    rintro _ w53 ⟨p2, rfl, ⟨hk2, hr2, ha2⟩, hb2⟩
    replace hcs := hcs.below hb2
    replace M := M.call hb2
    refine ⟨_, rfl, ?_⟩
    intro a A
    refine sdo (v := .pointer (some ⟨g9, j * 2, none⟩)) A (qba (k := j) Tryz.underlying34 (by kernel_rfl) rfl rfl rfl hso9 (by omega)) λa A↦?_
    refine s_storeRX (cs := p2.c) (us := zh Sp.c ((cs ++ [p2]) ++ (zx (ls.take i)).drop (j + 1))) (L' := (.obj g47 (.cells t1.c.toArray 41) :: .row 41 2 (.slice so9 ((zx (ls.take i)).length) ca9) ((zx (ls.take i)).length) (zh Sp.c ((cs ++ [p2]) ++ (zx (ls.take i)).drop (j + 1))) :: [])) A M rfl rfl (m_storeX hso9 rfl rfl rfl (by kernel_rfl) M 1 rfl (by show _ + 2 ≤ _; omega) (sp_all p2)) hso9 1 rfl (over_rowS (by rw [List.length_append, List.length_drop]; omega) (sset_row p2 hcl2 (by omega))) rfl ?_
    intro w54 M hK55
    replace hcs := hcs.snoc hr2 (ha2.mono (fun b hb => ⟨by omega, by rintro rfl; omega⟩)) hK55
    refine qa (hK45 _ _ (wrl (sdo (v := .int .i64 (((j + 1 : Nat) : Int))) A (qg rfl rfl (fun w => (jk (xj (by omega) (by omega)) w).trans (by rw [show (((j : Nat) : Int) + 1 : Int) = ((j + 1 : Nat) : Int) from by omega]))) λa A↦?_)))
    refine sdm A λa A↦?_
    refine qa ?_
    replace M : Mg w w54 (.row 41 2 (.slice so9 ((zx (ls.take i)).length) ca9) ((zx (ls.take i)).length) (zh Sp.c ((cs ++ [p2]) ++ (zx (ls.take i)).drop (j + 1))) :: []) := by
     have h9 := M.sub (cn (cc (.refl _)))
     exact h9
    refine hK40 _ _ _ (by omega) ⟨j + 1, cs ++ [p2], rfl, ⟨by omega, by rw [List.length_append]; simp only [List.length_cons, List.length_nil]; omega, key_snoc htr i1 hk2, hcs⟩, A.keep _ (by repeat' constructor), M⟩
   ·
    have hb43' := of_decide_eq_false hb43
    refine sdc A zl hb43 λa A↦?_
    refine qa (hK42 _ _ (wsk fun K56 hK56 => wp_cond_false (A.ev rfl) ?_))
    refine wp_exit (hK37 _ _ (wsk fun K57 hK57 => wrl (sdm A λa A↦?_)))
    iterate 2 refine sda A λa A↦?_
    refine qa (hK57 _ _ (wp_ret (hret _ _ (en2 A rfl (qe rfl) (qe rfl) ?_))))
    have e8 : ls.take i = ls := List.take_of_length_le (by omega)
    rw [e8] at hb35'
    have e9 : cs ++ (zx (ls.take i)).drop j = cs := by rw [List.drop_of_length_le (by omega), List.append_nil]
    rw [e9] at M
    have e7 : (zx (ls.take i)).length = cs.length := by omega
    rw [e7] at M ⊢
    exact ⟨_, _, cs, 0, rfl, ⟨hb35'.symm, by rw [if_pos hb35', htr, List.take_of_length_le (by omega), e8], ⟨xq (M.has 0 rfl), fun p hp => (hcs p hp).1⟩, uu (M.has 0 rfl) _, fun p hp => (hcs p hp).2.mono fun b hb => hb.1⟩, M.bel⟩
mutual
/-- How many nodes. -/
def kf : Tr → Nat
  | .mk _ _ _ _ _ ts => 1 + jy ts
def jy : List Tr → Nat
  | [] => 0
  | t :: ts => kf t + jy ts
end
mutual
/-- Not too deep. -/
def kr (dp : Int) : Tr → Bool
  | .mk k _ _ _ _ ts => decide (dp ≤ 200) && qbb dp (decide (k = 8)) 0 ts
def qbb (dp : Int) (pr : Bool) (i : Nat) : List Tr → Bool
  | [] => true
  | t :: ts => kr (if pr = true ∧ i = 1 then dp else dp + 1) t && qbb dp pr (i + 1) ts
end
def FitC (t : Tr) : Prop := ∀ dp left : Int, ((je dp left t).1 = true ↔ kr dp t = true ∧ (kf t : Int) ≤ left) ∧ ((je dp left t).1 = true → (je dp left t).2 = left - kf t)
theorem qhe {dp : Int} {pr : Bool} : ∀ {ts : List Tr}, (∀ t ∈ ts, FitC t) → ∀ (i : Nat) (m : Int), 0 ≤ m → ((vl dp pr i m ts).1 = true ↔ qbb dp pr i ts = true ∧ (jy ts : Int) ≤ m) ∧ ((vl dp pr i m ts).1 = true → (vl dp pr i m ts).2 = m - jy ts)
  | [], _, i, m, hm => by simp [vl, qbb, jy, hm]
  | t :: ts, h, i, m, hm => by
    have h1 := h t List.mem_cons_self (if pr = true ∧ i = 1 then dp else dp + 1) m
    have hp := qcb t (if pr = true ∧ i = 1 then dp else dp + 1) m
    rw [vl, qbb, jy]
    generalize (if pr = true ∧ i = 1 then dp else dp + 1) = D at h1 hp ⊢
    by_cases hc : (je D m t).1 = true
    · rw [if_pos hc]
      have h2 := qhe (dp := dp) (pr := pr) (fun x hx => h x (List.mem_cons_of_mem _ hx)) (i + 1) _ (hp hc)
      have h3 := h1.1.1 hc
      have h4 := h1.2 hc
      rw [h4] at h2 ⊢
      rw [Bool.and_eq_true, h3.1]
      refine ⟨⟨fun k => ?_, fun k => ?_⟩, fun k => ?_⟩
      · have := h2.1.1 k; exact ⟨⟨rfl, this.1⟩, by have := this.2; push_cast; omega⟩
      · exact h2.1.2 ⟨k.1.2, by have := k.2; push_cast at this; omega⟩
      · rw [h2.2 k]; push_cast; omega
    · rw [if_neg hc]
      refine ⟨⟨(fun k => by cases k), fun k => absurd (h1.1.2 ⟨?_, ?_⟩) hc⟩, (fun k => by cases k)⟩
      · have := k.1; rw [Bool.and_eq_true] at this; exact this.1
      · have := k.2; push_cast at this; omega
theorem fit_char : ∀ t : Tr, FitC t := by
  refine Tr.indT fun k n q s rl ts ih dp left => ?_
  rw [je, kr, kf]
  by_cases hc : left - 1 < 0 ∨ 200 < dp
  · rw [if_pos hc]
    refine ⟨⟨(fun k => by cases k), fun k => ?_⟩, (fun k => by cases k)⟩
    have h1 := k.1
    have h2 := k.2
    rw [Bool.and_eq_true, decide_eq_true_eq] at h1
    push_cast at h2
    omega
  · rw [if_neg hc]
    have h2 := qhe (dp := dp) (pr := decide (k = 8)) ih 0 (left - 1) (by omega)
    rw [decide_eq_true (show dp ≤ 200 by omega), Bool.true_and]
    refine ⟨⟨fun k => ?_, fun k => ?_⟩, fun k => ?_⟩
    · have := h2.1.1 k; exact ⟨this.1, by have := this.2; push_cast; omega⟩
    · exact h2.1.2 ⟨k.1, by have := k.2; push_cast at this; omega⟩
    · rw [h2.2 k]; push_cast; omega
theorem qei : ∀ (xs : List Tr) (z : Tr), kf (zu xs z) = jy xs + xs.length + kf z
  | [], z => by simp [zu, jy]
  | x :: xs, z => by rw [zu, kf, jy, jy, jy, qei xs z, jy, List.length_cons]; omega
theorem qhf : ∀ (xs : List Tr) (z : Tr), kr 1 (zu xs z) = (xs.all (kr 2) && kr 1 z)
  | [], z => by simp [zu]
  | x :: xs, z => by
    rw [zu, kr, qbb, qbb, qbb, List.all_cons]
    have : (if decide ((8 : Int) = 8) = true ∧ 0 = 1 then (1 : Int) else 1 + 1) = 2 := by decide
    rw [this]
    have : (if decide ((8 : Int) = 8) = true ∧ 0 + 1 = 1 then (1 : Int) else 1 + 1) = 1 := by decide
    rw [this, qhf xs z]
    simp [Bool.and_assoc]
theorem all_link : ∀ (xs : List Tr) (z : Tr), jz qh (zu xs z) = (xs.all (jz qh) && jz qh z)
  | [], z => by simp [zu]
  | x :: xs, z => by
    rw [zu, jz, yg, yg, yg, List.all_cons, all_link xs z]
    have : qh (.mk 8 0 Q6.zero ⟨#[]⟩ [] [x, zu xs z]) = true := by rfl
    rw [this]
    simp [Bool.and_assoc]
theorem sound_char (t : Tr) : qz qh t = true ↔ kr 1 t = true ∧ kf t ≤ 20000 ∧ jz qh t = true := by
  unfold qz
  rw [Bool.and_eq_true, (fit_char t 1 20000).1]
  constructor
  · rintro ⟨⟨h1, h2⟩, h3⟩; exact ⟨h1, by omega, h3⟩
  · rintro ⟨h1, h2, h3⟩; exact ⟨⟨h1, by omega⟩, h3⟩
theorem sound_link (xs : List Tr) (z : Tr) : qz qh (zu xs z) = true ↔ (xs.all (kr 2) = true ∧ kr 1 z = true) ∧ jy xs + xs.length + kf z ≤ 20000 ∧ xs.all (jz qh) = true ∧ jz qh z = true := by
  rw [sound_char, qhf, qei, all_link, Bool.and_eq_true, Bool.and_eq_true]
theorem qka {xs : List Tr} {z : Tr} (h : 20000 < xs.length) : qz qh (zu xs z) = false := by
  apply Bool.eq_false_iff.2
  intro k
  have := ((sound_link xs z).1 k).2.1
  omega
/-! ### What the calls answer -/
def fitS (xs : List Tr) (z : Tr) : Tr × Int := if qz qh (zu xs z) = true then (zu xs z, 0) else (qlg, 4)
def ofS (xs : List Tr) : Tr := (fitS xs nilT).1
theorem fitS_long {xs : List Tr} {z : Tr} (h : 20000 < xs.length) : fitS xs z = (qlg, 4) := by unfold fitS; rw [if_neg (by rw [qka h]; decide)]
theorem fitS_yes {xs : List Tr} {z : Tr} (h : qz qh (zu xs z) = true) : fitS xs z = (zu xs z, 0) := by unfold fitS; rw [if_pos h]
theorem fitS_no {xs : List Tr} {z : Tr} (h : qz qh (zu xs z) = false) : fitS xs z = (qlg, 4) := by unfold fitS; rw [if_neg (by rw [h]; decide)]
theorem Rt.drop {w : World} {so : Option Addr} {ts : List Dt} (h : Rt w so ts) (cap n : Nat) (hc : ts.length ≤ cap) : Rt w (if cap = n then so else so.map (·.add (n * 11))) (ts.drop n) := fun hne => by
  have hlt : n < ts.length := by
    apply Classical.byContradiction
    intro k
    exact hne (List.drop_of_length_le (by omega))
  obtain ⟨b, o, e, h2⟩ := h (fun k => by rw [k] at hlt; simp at hlt)
  rw [if_neg (by omega), e]
  refine ⟨b, o + n * 11, by simp [jg], fun i t hi => ?_⟩
  rw [List.getElem?_drop] at hi
  have := h2 _ _ hi
  rwa [Nat.add_mul, ← Nat.add_assoc] at this
theorem asList_bulk {t : Tr} {xs : List Tr} (h : jh t = some xs) : Tr.bulks xs + xs.length + 1 = t.bulk := by
  rw [qma h, uy]
  rfl
/-! ### The other way round -/
/-- A list is sound. -/
def OkL (L : List Tr) : Prop := L.all (kr 2) = true ∧ jy L + L.length + 1 ≤ 20000 ∧ L.all (jz qh) = true
theorem OkL.of {L M : List Tr} (h : OkL L) (hm : ∀ x ∈ M, x ∈ L) (hn : jy M + M.length ≤ jy L + L.length) : OkL M := ⟨List.all_eq_true.2 fun x hx => List.all_eq_true.1 h.1 x (hm x hx), by have := h.2.1; omega, List.all_eq_true.2 fun x hx => List.all_eq_true.1 h.2.2 x (hm x hx)⟩
/-! ### How much the answers hold -/
/-- The items of a datum, and the error. -/
noncomputable def ug (t : Tr) : List Tr × Int :=
  if qz qh t = false then ([], 2) else match jh t with
    | none => ([], 10)
    | some xs => (xs, 0)
theorem itemS_bad {t : Tr} (h : qz qh t = false) : ug t = ([], 2) := by unfold ug; rw [if_pos h]
theorem itemS_none {t : Tr} (h : qz qh t = true) (ha : jh t = none) : ug t = ([], 10) := by unfold ug; rw [if_neg (by rw [h]; decide), ha]
theorem qej {t : Tr} {xs : List Tr} (h : qz qh t = true) (ha : jh t = some xs) : ug t = (xs, 0) := by unfold ug; rw [if_neg (by rw [h]; decide), ha]
theorem tr_at {us vs : List Dt} (h : us.map Dt.tr = vs.map Dt.tr) {i : Nat} {t u : Dt} (ht : us[i]? = some t) (hu : vs[i]? = some u) : t.tr = u.tr := by
  have := congrArg (fun l => l[i]?) h
  simp only [List.getElem?_map, ht, hu, Option.map_some] at this
  exact Option.some.inj this
/-! ### A fixed fact -/
/-- The type that names a condition. -/
def hdT (ks : List (Int × List Tr)) : Int := match ks[(fdI ks 3).toNat]? with
  | some k => if 0 ≤ fdI ks 3 then k.1 else 0
  | none => 0
theorem hdT_hit {ks : List (Int × List Tr)} {k : Int × List Tr} (h : 0 ≤ fdI ks 3) (hk : ks[(fdI ks 3).toNat]? = some k) : hdT ks = k.1 := by unfold hdT; rw [hk]; exact if_pos h
theorem hdT_no {ks : List (Int × List Tr)} (h : ¬ 0 ≤ fdI ks 3) : hdT ks = 0 := by
  unfold hdT
  cases ks[(fdI ks 3).toNat]? with
  | none => rfl
  | some k => exact if_neg h
/-- The field of the first part of a type that has one. -/
def flT (ks : List (Int × List Tr)) (t : Int) : Option Tr := if 0 ≤ fdI ks t then (ks[(fdI ks t).toNat]?).bind fun k => k.2[0]? else none
theorem flT_hit {ks : List (Int × List Tr)} {t : Int} {k : Int × List Tr} {d : Tr} (h : 0 ≤ fdI ks t) (hk : ks[(fdI ks t).toNat]? = some k) (hd : k.2[0]? = some d) : flT ks t = some d := by unfold flT; rw [if_pos h, hk]; exact hd
theorem flT_no {ks : List (Int × List Tr)} {t : Int} (h : ¬ 0 ≤ fdI ks t) : flT ks t = none := if_neg h
noncomputable def irT (ks : List (Int × List Tr)) : List Tr := match flT ks 7 with
  | some t => (ug t).1
  | none => []
def opT (o : Option Tr) (f : Tr → List UInt8) : List UInt8 := match o with
  | some t => f t
  | none => []
def nmL (t : Int) : List UInt8 := (kat t).nm.data.toList
noncomputable def tlS (f g : Tr → List UInt8) (ks : List (Int × List Tr)) : List UInt8 := ((nmL (hdT ks) ++ opT (flT ks 8) fun t => [32, 105, 110, 32] ++ f t) ++ opT (flT ks 1) fun t => [58, 32] ++ f t) ++ (irT ks).flatMap fun t => [32] ++ g t
theorem one_all : ∀ i, i < 20 → ∀ t ∈ [1, 7, 8], ke ((i : Nat) : Int) t = true → yb ((i : Nat) : Int) = 1 := by decide +kernel
theorem one_at {x t : Int} (hx : okT 20 x = true) (ht : t = 1 ∨ t = 7 ∨ t = 8) (h : ke x t = true) : yb x = 1 := by
  have h1 := kj hx
  have e : ((x.toNat : Nat) : Int) = x := by omega
  have := one_all x.toNat (by omega) t (by rcases ht with rfl | rfl | rfl <;> decide)
  rw [e] at this
  exact this h
theorem nm_all : ∀ i, i < 20 → (kds.getD i ji).nm ≠ ⟨#[]⟩ := by
  intro i hi
  have key : ∀ i, i < 20 → (kds.getD i ji).nm.size ≠ 0 := by decide
  exact fun e => key i hi (by rw [e]; rfl)
theorem nm_ne {t : Int} (h : okT 20 t = true) : (kat t).nm ≠ ⟨#[]⟩ := by
  rw [qja h]
  exact nm_all _ (by have := kj h; omega)
theorem nmL_ne {t : Int} (h : okT 20 t = true) : nmL t ≠ [] := fun e => nm_ne h (by
  apply ByteArray.ext
  have : (kat t).nm.data.toList = [] := e
  simpa using this)
theorem nm_len : ∀ i, i < 20 → (kds.getD i ji).nm.size ≤ 100 := by decide
theorem nmL_len {t : Int} (h : okT 20 t = true) : (kat t).nm.size ≤ 100 := by
  rw [qja h]
  exact nm_len _ (by have := kj h; omega)
/-- Is it the Bool false? -/
def isF (t : Tr) : Bool := decide (t.k = 2) && decide (t.n = 0)
noncomputable def erS (a m : Tr) (is : List Tr) (v : Bool) : List (Int × List Tr) × Int :=
  if qz qh a = true ∧ qz qh m = true ∧ qz qh (ofS is) = true then
    ((if v = true then (6, []) else (4, [])) :: (if isF a = true then [] else [(8, [a])]) ++ [(1, [m]), (7, [ofS is])], 0)
  else ([], 2)
theorem erS_no {a m : Tr} {is : List Tr} {v : Bool} (h : ¬ (qz qh a = true ∧ qz qh m = true ∧ qz qh (ofS is) = true)) : erS a m is v = ([], 2) := if_neg h
theorem erS_f {a m : Tr} {is : List Tr} {v : Bool} (h1 : qz qh a = true) (h2 : qz qh m = true) (h3 : qz qh (ofS is) = true) (h4 : isF a = true) : erS a m is v = ([(if v = true then (6, []) else (4, [])), (1, [m]), (7, [ofS is])], 0) := by
  unfold erS
  rw [if_pos ⟨h1, h2, h3⟩, if_pos h4]; rfl
theorem erS_t {a m : Tr} {is : List Tr} {v : Bool} (h1 : qz qh a = true) (h2 : qz qh m = true) (h3 : qz qh (ofS is) = true) (h4 : isF a = false) : erS a m is v = ([(if v = true then (6, []) else (4, [])), (8, [a]), (1, [m]), (7, [ofS is])], 0) := by
  unfold erS
  rw [if_pos ⟨h1, h2, h3⟩, if_neg (show ¬ isF a = true by rw [h4]; decide)]; rfl
theorem LiD_is1_3 : Is1 Tryz.prog 3 := ⟨⟨_, Tryz.underlying3, rfl⟩, by kernel_rfl⟩
theorem LiD_is1_39 : Is1 Tryz.prog 39 := ⟨⟨_, Tryz.underlying39, rfl⟩, by kernel_rfl⟩
theorem LiD_fld_53_0 : FieldAt Tryz.prog 53 0 0 := ⟨_, _, Tryz.underlying53, rfl, rfl, by kernel_rfl⟩
theorem LiD_fld_53_5 : FieldAt Tryz.prog 53 5 10 := ⟨_, _, Tryz.underlying53, rfl, rfl, by kernel_rfl⟩
theorem LiD_isS_53 : IsS Tryz.prog 53 11 := ⟨⟨_, Tryz.underlying53⟩, by kernel_rfl⟩
theorem first_any {w : World} {t t0 : Dt} (ht : t.rd w) (h0 : t.ts[0]? = some t0) : Calls Tryz.prog 133 #[.agg (t.d.cells t.ts.length).toArray] w fun e w' => e = .returned (.agg (t0.d.cells t0.ts.length).toArray) ∧ Below w.heap.size w w' := by
 have hlt : 0 < t.ts.length := (List.getElem?_eq_some_iff.1 h0).1
 have M : Mg w w ([]) := Mg.start w
 refine qr (l := [(0, .agg (t.d.cells t.ts.length).toArray)]) Tryz.func133 rfl Tryz.ntmps133 rfl rfl ?_
 intro Q hret hnorm hP a A
 refine wsk fun K1 hK1 => wrl (zg (vs := (t.d.cells t.ts.length)) (t := 53) A M rfl rfl rfl pg (zd rfl rfl) (by decide) ?_)
 intro g2 w3 M a A
 refine zg (vs := (qs.d.cells qs.ts.length)) (t := 53) A M rfl rfl rfl pg (qk (z := .agg (qs.d.cells qs.ts.length).toArray) (by kernel_rfl) rfl) (by decide) ?_
 intro g4 w5 M a A
 refine qa (hK1 _ _ (wsk fun K6 hK6 => ?_))
 obtain ⟨t1, bt1, ot1, it1, mt1, rt1_, lt1, Ht1⟩ := kidT ht (i := 0) hlt
 obtain rfl : t1 = t0 := by rw [it1] at h0; exact Option.some.inj h0
 refine wrl (sdo (v := .pointer (some ⟨g2, 10, none⟩)) A (qb LiD_fld_53_5 rfl rfl) λa A↦?_)
 refine sdo A (qi M LiD_is1_39 rfl 1 rfl rfl) λa A↦?_
 refine sdo (v := .pointer (some ⟨bt1, ot1 + 0 * 11, none⟩)) A (zp (k := 0) Tryz.underlying39 (by kernel_rfl) rfl rfl rfl lt1 hlt) λa A↦?_
 refine sdo A (jp M Ht1 LiD_isS_53 rfl rfl) λa A↦?_
 refine qw (us := (t1.d.cells t1.ts.length)) (L' := (.obj g4 (.cells (t1.d.cells t1.ts.length).toArray 53) :: .obj g2 (.cells (t.d.cells t.ts.length).toArray 53) :: [])) A M rfl rfl (qj rfl rfl rfl (by kernel_rfl) M 0 rfl rfl rfl) 0 rfl rfl rfl ?_
 intro w7 M
 refine qa (hK6 _ _ (wp_ret (hret _ _ (en1 A rfl (zr M LiD_isS_53 rfl 0 rfl (cs := [.int .i64 t1.d.k, .int .i64 t1.d.n, .bool t1.d.y.q.b1, .slice t1.d.y.o1 t1.d.y.q.t1.length t1.d.y.c1, .slice t1.d.y.o2 t1.d.y.q.q1.length t1.d.y.c2, .bool t1.d.y.q.b2, .slice t1.d.y.o3 t1.d.y.q.t2.length t1.d.y.c3, .slice t1.d.y.o4 t1.d.y.q.q2.length t1.d.y.c4, .string t1.d.s, .slice t1.d.ro t1.d.rl.length t1.d.rc, .slice t1.d.lo t1.ts.length t1.d.lc]) rfl rfl) ?_))))
 exact ⟨rfl, M.bel⟩
theorem end_any {w : World} : Calls Tryz.prog 61 #[] w fun e w' => e = .returned (.agg (nilD.d.cells nilD.ts.length).toArray) ∧ Below w.heap.size w w' := by
 have M : Mg w w ([]) := Mg.start w
 refine qr (l := []) Tryz.func61 rfl Tryz.ntmps61 rfl rfl ?_
 intro Q hret hnorm hP a A
 refine wsk fun K1 hK1 => wrl (zg (vs := (qs.d.cells qs.ts.length)) (t := 53) A M rfl rfl rfl pg (qk (z := .agg (qs.d.cells qs.ts.length).toArray) (by kernel_rfl) rfl) (by decide) ?_)
 intro g2 w3 M a A
 refine qa (hK1 _ _ (wsk fun K4 hK4 => wrl (sdo (v := .agg #[.int .i64 1, .int .i64 0, .bool false, .slice none 0 0, .slice none 0 0, .bool false, .slice none 0 0, .slice none 0 0, .string (⟨#[]⟩), .slice none 0 0, .slice none 0 0]) A (qn rfl (fun w => by kernel_rfl)) λa A↦?_)))
 refine qw (us := [.int .i64 1, .int .i64 0, .bool false, .slice none 0 0, .slice none 0 0, .bool false, .slice none 0 0, .slice none 0 0, .string (⟨#[]⟩), .slice none 0 0, .slice none 0 0]) (L' := (.obj g2 (.cells #[.int .i64 1, .int .i64 0, .bool false, .slice none 0 0, .slice none 0 0, .bool false, .slice none 0 0, .slice none 0 0, .string (⟨#[]⟩), .slice none 0 0, .slice none 0 0] 53) :: [])) A M rfl rfl (qj rfl rfl rfl (by kernel_rfl) M 0 rfl rfl rfl) 0 rfl rfl rfl ?_
 intro w5 M
 refine qa (hK4 _ _ (wp_ret (hret _ _ (en1 A rfl (zr M LiD_isS_53 rfl 0 rfl (cs := [.int .i64 1, .int .i64 0, .bool false, .slice none 0 0, .slice none 0 0, .bool false, .slice none 0 0, .slice none 0 0, .string (⟨#[]⟩), .slice none 0 0, .slice none 0 0]) rfl rfl) ?_))))
 exact ⟨rfl, M.bel⟩
theorem qbc {w0 w : World} {t : Dt} (h0 : Below w0.heap.size w0 w) (ht : t.rd w0) (hs : jz qh t.tr = true) (hb : t.tr.bulk ≤ 1000000000) : Calls Tryz.prog 104 #[.agg (t.d.cells t.ts.length).toArray] w fun e w' => (∃ so' ca' xs, e = .returned (.tuple #[.slice so' (xs : List Dt).length ca', .int .i64 0]) ∧ (jh t.tr = some (xs.map Dt.tr) ∧ (∀ x ∈ xs, x.rd w0) ∧ xs.length ≤ t.tr.bulk) ∧ Mg w w' [.row 53 11 (.slice so' xs.length ca') xs.length (cellsOf xs)]) ∨ (e = .returned (.tuple #[.slice none 0 0, .int .i64 10]) ∧ jh t.tr = none ∧ Below w.heap.size w w') := by
 have M : Mg w w ([]) := Mg.start w
 refine qr (l := [(0, .agg (t.d.cells t.ts.length).toArray)]) Tryz.func104 rfl Tryz.ntmps104 rfl rfl ?_
 intro Q hret hnorm hP a A
 refine wsk fun K1 hK1 => wrl (zg (vs := (t.d.cells t.ts.length)) (t := 53) A M rfl rfl rfl pg (zd rfl rfl) (by decide) ?_)
 intro g2 w3 M a A
 iterate 2 refine sda A λa A↦?_
 refine qa (hK1 _ _ (wsk fun K4 hK4 => wrl (sda A λa A↦?_)))
 refine qa (hK4 _ _ (wsk fun K5 hK5 => wp_block ?_))
 replace M := M.nilRow (qf (by simp) (qp qy)) 53 11
 refine ja (fun m_ a w1 => ∃ (p : Dt) (xs : List Dt) (so_ : Option Addr) (ca_ : Nat), m_ = 1 + p.tr.bulk ∧ (p.rd w0 ∧ jz qh p.tr = true ∧ (∀ x ∈ xs, x.rd w0) ∧ t.tr = zu (xs.map Dt.tr) p.tr ∧ xs.length + p.tr.bulk ≤ t.tr.bulk) ∧ Sl a 21 [(0, .agg (t.d.cells t.ts.length).toArray), (1, .pointer (some ⟨g2, 0, none⟩)), (2, .slice none 0 0), (3, .int .i64 0), (4, .slice so_ xs.length ca_)] ∧ Mg w w1 (.row 53 11 (.slice so_ xs.length ca_) xs.length (cellsOf xs) :: .obj g2 (.cells (p.d.cells p.ts.length).toArray 53) :: [])) _ ⟨t, [], none, 0, rfl, ⟨ht, hs, (fun x h => by cases h), rfl, (by show 0 + t.tr.bulk ≤ t.tr.bulk; omega)⟩, A.keep _ ⟨rfl, rfl, rfl, rfl, rfl, trivial⟩, M⟩ ?_
 clear M A
 rintro m_ a w6 ⟨p, xs, so_, ca_, rfl, hinv8, A, M⟩ K7 hK7
 obtain ⟨hp, hps, hxs, htl, hbx⟩ := hinv8
 refine wsk fun K9 hK9 => wsk fun K10 hK10 => wrl (sdo (v := .pointer (some ⟨g2, 0, none⟩)) A (qb LiD_fld_53_0 rfl rfl) λa A↦?_)
 refine sdo A (qi M LiD_is1_3 rfl 1 rfl rfl) λa A↦?_
 rcases tf ((p.d.k == 8)) with hb11 | hb11
 ·
  have hb11' := eq_of_beq hb11
  refine sdc A qx hb11 λa A↦?_
  refine qa (hK10 _ _ (wp_cond_true (A.ev rfl) ?_))
  refine wp_skip (hK9 _ _ (wp_block (wsk fun K12 hK12 => ?_)))
  have l2p := (pair_at hps hb11').1
  have hbp := bulk_one p
  obtain ⟨p0, bp0, op0, ip0, mp0, rp0_, lp0, Hp0⟩ := kidT hp (i := 0) (by omega)
  obtain ⟨p1, bp1, op1, ip1, mp1, rp1_, lp1, Hp1⟩ := kidT hp (i := 1) (by omega)
  replace Hp0 := Hp0.below h0
  replace Hp1 := Hp1.below h0
  refine wrl (sdm A λa A↦?_)
  refine sdo A (za M LiD_isS_53 rfl 1 rfl (cs := (p.d.cells p.ts.length)) rfl rfl) λa A↦?_
  refine gcl A M (ef rfl rfl) (first_any (Dt.keep M.bel _ (Dt.keep h0 _ hp)) ip0) fun w14 hb13 M a A => ?_
  refine yh (e := 53) (sz := 11) (m := 1) (vs := cellsOf [p0]) A M rfl rfl rfl (zv rfl (by kernel_rfl)) rfl rfl (.inl (by decide)) ?_
  intro g15 w16 M a A
  refine xn (e := 53) (sz := 11) (k := 1) (q := xs.length) (m := 1) (xs := cellsOf xs) (news := cellsOf [p0]) (L' := fun v17 => (.row 53 11 (.slice (some ⟨g15, 0, none⟩) 1 1) 1 (cellsOf [p0]) :: .row 53 11 (v17) (xs.length + 1) (cellsOf xs ++ cellsOf [p0]) :: .obj g2 (.cells (p.d.cells p.ts.length).toArray 53) :: [])) A rfl rfl rfl (vm (z := .agg #[.int .i64 0, .int .i64 0, .bool false, .slice none 0 0, .slice none 0 0, .bool false, .slice none 0 0, .slice none 0 0, .string ⟨#[]⟩, .slice none 0 0, .slice none 0 0]) (sz := 11) (by_ := 192) Tryz.underlying39 (by kernel_rfl) rfl rfl rfl M 1 rfl rfl rfl rfl (xq (M.has 0 rfl)) (ua [p0]) (by omega)) (fun _ => rfl) ?_
  intro v17 w18 M a A
  replace M : Mg w w18 (.row 53 11 (.slice (some ⟨g15, 0, none⟩) 1 1) 1 (cellsOf [p0]) :: .row 53 11 (v17) ((xs ++ [p0]).length) (cellsOf (xs ++ [p0])) :: .obj g2 (.cells (p.d.cells p.ts.length).toArray 53) :: []) := by
   rw [vf, List.length_append]; exact M
  obtain ⟨so19, ca20, rfl⟩ := jr (M.has 1 rfl)
  refine sda A λa A↦?_
  refine qa (hK12 _ _ (wrl (sdo (v := .pointer (some ⟨g2, 10, none⟩)) A (qb LiD_fld_53_5 rfl rfl) λa A↦?_)))
  refine sdo A (qi M LiD_is1_39 rfl 2 rfl rfl) λa A↦?_
  refine sdo (v := .pointer (some ⟨bp1, op1 + 1 * 11, none⟩)) A (zp (k := 1) Tryz.underlying39 (by kernel_rfl) rfl rfl rfl lp1 (by omega)) λa A↦?_
  refine sdo A (jp M Hp1 LiD_isS_53 rfl rfl) λa A↦?_
  refine qw (us := (p1.d.cells p1.ts.length)) (L' := (.row 53 11 (.slice (some ⟨g15, 0, none⟩) 1 1) 1 (cellsOf [p0]) :: .row 53 11 (.slice so19 ((xs ++ [p0]).length) ca20) ((xs ++ [p0]).length) (cellsOf (xs ++ [p0])) :: .obj g2 (.cells (p1.d.cells p1.ts.length).toArray 53) :: [])) A M rfl rfl (qj rfl rfl rfl (by kernel_rfl) M 2 rfl rfl rfl) 2 rfl rfl rfl ?_
  intro w21 M
  refine qa ?_
  replace M : Mg w w21 (.row 53 11 (.slice so19 ((xs ++ [p0]).length) ca20) ((xs ++ [p0]).length) (cellsOf (xs ++ [p0])) :: .obj g2 (.cells (p1.d.cells p1.ts.length).toArray 53) :: []) := by
   have h9 := M.sub (cn (cc (cc (.refl _))))
   exact h9
  refine hK7 _ _ _ (by have := bulkT mp1; omega) ⟨p1, xs ++ [p0], so19, ca20, rfl, ⟨rp1_, (all_at hps).2 _ mp1, mem_snoc hxs rp0_, link_step htl hps hb11' ip0 ip1, by have := bulkT mp1; rw [List.length_append]; simp only [List.length_cons, List.length_nil]; omega⟩, A.keep _ ⟨rfl, rfl, rfl, rfl, rfl, trivial⟩, M⟩
 ·
  have hb11' := ne_of_beq_false hb11
  refine sdc A qx hb11 λa A↦?_
  refine qa (hK10 _ _ (wp_cond_false (A.ev rfl) ?_))
  refine wp_exit (hK5 _ _ (wsk fun K22 hK22 => wsk fun K23 hK23 => wrl (sdo (v := .pointer (some ⟨g2, 0, none⟩)) A (qb LiD_fld_53_0 rfl rfl) λa A↦?_)))
  refine sdo A (qi M LiD_is1_3 rfl 1 rfl rfl) λa A↦?_
  rcases tf ((p.d.k != 1)) with hb24 | hb24
  ·
   have hb24' := bne_iff_ne.1 hb24
   refine sdc A zm hb24 λa A↦?_
   refine qa (hK23 _ _ (wp_cond_true (A.ev rfl) ?_))
   refine wsk fun K25 hK25 => wrl ?_
   iterate 2 refine sda A λa A↦?_
   refine qa (hK25 _ _ (wp_ret (hret _ _ (en2 A rfl (qe rfl) (qe rfl) ?_))))
   exact .inr ⟨rfl, asList_not htl hb11' hb24', M.bel⟩
  ·
   have hb24' := bne_eq_false_iff_eq.1 hb24
   refine sdc A zm hb24 λa A↦?_
   refine qa (hK23 _ _ (wp_cond_false (A.ev rfl) ?_))
   refine wp_skip (hK22 _ _ (wsk fun K26 hK26 => wrl (sdm A λa A↦?_)))
   iterate 2 refine sda A λa A↦?_
   refine qa (hK26 _ _ (wp_ret (hret _ _ (en2 A rfl (qe rfl) (qe rfl) ?_))))
   replace M : Mg w w6 (.row 53 11 (.slice so_ xs.length ca_) xs.length (cellsOf xs) :: []) := by
    have h9 := M.sub (cc (cn (.refl _)))
    exact h9
   exact .inl ⟨_, _, xs, rfl, ⟨asList_nil htl hps hb24', hxs, by omega⟩, M⟩
theorem qgb {w0 w : World} {t : Dt} (h0 : Below w0.heap.size w0 w) (ht : t.rd w0) (hs : jz qh t.tr = true) (hb : t.tr.bulk ≤ 1000000000) (h : (jh t.tr).isSome = true) : Calls Tryz.prog 104 #[.agg (t.d.cells t.ts.length).toArray] w fun e w' => ∃ so' ca' xs, e = .returned (.tuple #[.slice so' (xs : List Dt).length ca', .int .i64 0]) ∧ (jh t.tr = some (xs.map Dt.tr) ∧ (∀ x ∈ xs, x.rd w0) ∧ xs.length ≤ t.tr.bulk) ∧ Mg w w' [.row 53 11 (.slice so' xs.length ca') xs.length (cellsOf xs)] := by
 refine (qbc h0 ht hs hb).mono ?_
 rintro e w' (h1 | ⟨_, h2, _⟩)
 ·
  exact h1
 ·
  rw [h2] at h; cases h
theorem qgc {w0 w : World} {t : Dt} (h0 : Below w0.heap.size w0 w) (ht : t.rd w0) (hs : jz qh t.tr = true) (hb : t.tr.bulk ≤ 1000000000) (h : (jh t.tr).isSome = false) : Calls Tryz.prog 104 #[.agg (t.d.cells t.ts.length).toArray] w fun e w' => e = .returned (.tuple #[.slice none 0 0, .int .i64 10]) ∧ Below w.heap.size w w' := by
 refine (qbc h0 ht hs hb).mono ?_
 rintro e w' (⟨_, _, xs, _, h1, _⟩ | ⟨h1, _, h3⟩)
 ·
  rw [h1.1] at h; cases h
 ·
  exact ⟨h1, h3⟩
section
variable {F : Fence} {m : Nat} {P : Program} {w0 w w' : World} {L : List Ck} {l : List (Nat × Value)} {ops : List Oper} {Q : Exit → Act → World → Prop} {a : Act} {n : Nat} {o : Oper} {rest : List Oper} {d : Nat} {v : Value}
/-- The slots, whatever waits for the function's end. -/
def Sd (a : Act) (n : Nat) (l : List (Nat × Value)) : Prop := Sl { a with defers := [] } n l
theorem qkb (hnd : ∀ c, o.op ≠ .defer c) (r : Option Nat) (ρ : Operand → Value) : o.semAt r ρ = execOp ρ o := by
  cases r with
  | none => rfl
  | some k => exact Oper.semAt_some k _ _ hnd
theorem vh (hF : ∀ f, F.fn f) (hA : Sd a n l) (hg : zi l ops o = true) (hdst : o.dst = some d) (hd : Nat.blt d n = true) (hnd : ∀ c, o.op ≠ .defer c) (he : Does P l o w v w')
    (hk : ∀ a', Sd a' n ((d, v) :: l) → a'.defers = a.defers → wpListIn F m P ops.toArray Q rest a' w') : wpListIn F m P ops.toArray Q (o :: rest) a w := by
  unfold wpListIn
  rw [if_pos (show Region.wanted o (yielded ops.toArray a.tmps) = true from hA.wanted hg)]
  refine ⟨fun f _ => hF f, ?_⟩
  rw [qkb hnd, he a.eval (fun x u hx => hA.ev hx), Oper.uponIn_value, hdst]
  exact hk _ (hA.put hd v) rfl
theorem i_set (hF : ∀ f, F.fn f) (hA : Sd a n l) (hg : zi l ops o = true) (hdst : o.dst = none) (hnd : ∀ c, o.op ≠ .defer c) (he : Sets P l o w w')
    (hk : wpListIn F m P ops.toArray Q rest a w') : wpListIn F m P ops.toArray Q (o :: rest) a w := by
  unfold wpListIn
  rw [if_pos (show Region.wanted o (yielded ops.toArray a.tmps) = true from hA.wanted hg)]
  refine ⟨fun f _ => hF f, ?_⟩
  rw [qkb hnd, he a.eval (fun x u hx => hA.ev hx), Oper.uponIn_skip, hdst]
  exact hk
theorem i_call (hF : ∀ f, F.fn f) (hd0 : F.depth = none) (hA : Sd a n l) (hg : zi l ops o = true) (hdst : o.dst = some d) (hd : Nat.blt d n = true) (hnd : ∀ c, o.op ≠ .defer c) {f : FuncId} {vs : List Value} (he : Enters P l o w f vs) {R : World → Prop} (hc : CallsIn F (m - 1) P f vs.toArray w fun e w' => e = .returned v ∧ R w')
    (hk : ∀ w', R w' → ∀ a', Sd a' n ((d, v) :: l) → a'.defers = a.defers → wpListIn F m P ops.toArray Q rest a' w') : wpListIn F m P ops.toArray Q (o :: rest) a w := by
  unfold wpListIn
  rw [if_pos (show Region.wanted o (yielded ops.toArray a.tmps) = true from hA.wanted hg)]
  refine ⟨fun f _ => hF f, ?_⟩
  rw [qkb hnd, he a.eval (fun x u hx => hA.ev hx), Oper.uponIn_enter]
  refine ⟨(fun h => by rw [hd0] at h; cases h), hc.mono ?_⟩
  rintro _ w' ⟨rfl, h⟩
  rw [hdst]
  exact hk w' h _ (hA.put hd v) rfl
/-- A loop of so many rounds. -/
theorem i_loop {c : Code} (I : Nat → Act → World → Prop) (N : Nat) (h0 : I N a w) (round : ∀ k a w, I k a w → c.wpIn F m P (Exit.then (fun a' w' => ∃ j, k = j + 1 ∧ I j a' w') Q) a w) : (Code.loop c).wpIn F m P Q a w := by
  have key : ∀ k a w, I k a w → Code.roundsIn F m P c Q (k + 1) a w := by
    intro k
    induction k with
    | zero =>
      intro a w h
      refine wpIn_mono (round 0 a w h) (fun e a' w' hq => ?_)
      cases e with
      | normal => obtain ⟨j, hj, _⟩ := hq; omega
      | _ => exact hq
    | succ k ih =>
      intro a w h
      refine wpIn_mono (round (k + 1) a w h) (fun e a' w' hq => ?_)
      cases e with
      | normal =>
        obtain ⟨j, hj, hI⟩ := hq
        obtain rfl : k = j := by omega
        exact ih a' w' hI
      | _ => exact hq
  exact wpIn_loop_rounds (N + 1) (key N a w h0)
/-- A round of a loop is called. -/
theorem i_yield (hF : ∀ f, F.fn f) (hd0 : F.depth = none) (hA : Sd a n l) (hg : zi l ops o = true) (hdst : o.dst = some d) (hd : Nat.blt d n = true) (hnd : ∀ c, o.op ≠ .defer c) {k : Nat} {vs : List Value} (he : ∀ ρ : Operand → Value, (∀ x u, ev l x = some u → ρ x = u) → (execOp ρ o).run P w = (Instr.yield k vs.toArray).run P w) {R : Bool → World → Prop} (hy : YieldAt F (m - 1) P k vs.toArray w fun e w' => ∃ b, e = .returned (.bool b) ∧ R b w')
    (hk : ∀ b w', R b w' → ∀ a', Sd a' n ((d, .bool b) :: l) → a'.defers = a.defers → wpListIn F m P ops.toArray Q rest a' w') : wpListIn F m P ops.toArray Q (o :: rest) a w := by
  obtain ⟨fn, tmps, assign, body, h1, h2⟩ := hy
  unfold wpListIn
  rw [if_pos (show Region.wanted o (yielded ops.toArray a.tmps) = true from hA.wanted hg)]
  refine ⟨fun f _ => hF f, ?_⟩
  rw [qkb hnd, he a.eval (fun x u hx => hA.ev hx), h1, Oper.uponIn_round]
  refine ⟨(fun h => by rw [hd0] at h; cases h), h2.mono ?_⟩
  rintro _ w' ⟨b, rfl, h⟩
  rw [hdst]
  exact hk b w' h _ (hA.put hd (.bool b)) rfl
theorem calls_yield {x : Operand} {k : Nat} {args : List Operand} {ts : Array TypeId} {vs : List Value} {dst : Option Tmp} {ty : TypeId} {pos : String} {after : Array Edge} {guard : Option (Nat × Bool)} (hx : ev l x = some (.func (.yield k) #[] #[])) (ha : evs l args = some vs) :
    ∀ ρ : Operand → Value, (∀ x u, ev l x = some u → ρ x = u) → (execOp ρ ⟨dst, .call ⟨.value x, args.toArray, ts⟩, ty, pos, after, guard⟩).run P w = (Instr.yield k vs.toArray).run P w := fun ρ h => by
  have e := qif h args vs ha
  simp [execOp, resolve, invoke, h x _ hx, Deferred.ofValue, e]
theorem Sd.sl (h : Sd a n l) (hd : a.defers = []) : Sl a n l := ⟨h.size, h.holds, hd⟩
theorem Sd.ev (h : Sd a n l) {x : Operand} {v : Value} (hx : Go.Proofs.YtdpakekdbkpdfaaGreatDoor.G.ev l x = some v) : a.eval x = v := Sl.ev h hx
theorem Sd.keep (h : Sd a n l) (l' : List (Nat × Value)) (hs : AllIn l l') : Sd a n l' := Sl.keep h l' hs
theorem i_walk {f : FuncId} {fn : Func} {c : Code} {args : List Value} {Z : Ending → World → Prop} (hf : P.funcs[f]? = some fn) (hb : fn.body = some c) (hF : F.fn f) (hn : fn.ntmps = n) (hl : Nat.ble args.length n = true) (hs : (args.zipIdx.map fun p => (p.2, p.1)) = l) (hro : F.round = none)
    (h : ∀ Q : Exit → Act → World → Prop, (∀ a w, bodyPost P fn Z .ret a w → Q .ret a w) → (∀ a w, bodyPost P fn Z .ret a w → Q .normal a w) → ∀ a, Sd a n l → a.defers = [] → c.wpIn F m P Q a w) : CallsIn F m P f args.toArray w Z := by
  subst hs
  refine callsIn_of_wp hf hb hF (h _ (fun _ _ h => h) (fun _ _ h => h) _ ?_ rfl) hro
  rw [hn]
  exact Sl.enter (Nat.le_of_ble_eq_true hl)
theorem i_walkM {f : FuncId} {fn : Func} {c : Code} {args : List Value} {Z : Ending → World → Prop} (hf : P.funcs[f]? = some fn) (hb : fn.body = some c) (hF : F.fn f) (hn : fn.ntmps = n) (hl : Nat.ble args.length n = true) (hs : (args.zipIdx.map fun p => (p.2, p.1)) = l) (hro : F.round = none)
    (h : ∀ Q : Exit → Act → World → Prop, (∀ a w, bodyPostM F m P fn Z .ret a w → Q .ret a w) → ∀ a, Sd a n l → a.defers = [] → c.wpIn F m P Q a w) : CallsIn F m P f args.toArray w Z := by
  subst hs
  refine callsIn_of_wp_marks hf hb hF (h _ (fun _ _ h => h) _ ?_ rfl) hro
  rw [hn]
  exact Sl.enter (Nat.le_of_ble_eq_true hl)
theorem uh {x y : Code} (h : ∀ K : Act → World → Prop, (∀ a w, y.wpIn F m P Q a w → K a w) → x.wpIn F m P (Exit.then K Q) a w) : (Code.seq x y).wpIn F m P Q a w := wpIn_seq (h _ (fun _ _ h => h))
theorem i_new (hF : ∀ f, F.fn f) (hA : Sd a n l) (hM : Mg w0 w L) (hg : zi l ops o = true) (hdst : o.dst = some d) (hd : Nat.blt d n = true) (hnd : ∀ c, o.op ≠ .defer c) {vs : List Value} {t : TypeId} (val : Nat → Value) (he : Does P l o w (val w.heap.size) (w.alloc (.cells vs.toArray t))) (ht : t ≠ BY)
    (hk : ∀ g w', Mg w0 w' (.obj g (.cells vs.toArray t) :: L) → w.heap.size ≤ g → g < w'.heap.size → Below w.heap.size w w' → KeepsOthers w w' → ∀ a', Sd a' n ((d, val g) :: l) → a'.defers = a.defers → wpListIn F m P ops.toArray Q rest a' w') : wpListIn F m P ops.toArray Q (o :: rest) a w :=
  vh hF hA hg hdst hd hnd he (hk _ _ (hM.addObj _ (vi ht)) (Nat.le_refl _) (by simp) ((Below.refl _ w).alloc (Nat.le_refl _) _) (KeepsOthers.alloc _ _))
end
theorem kg (g : Nat) : ∀ (cs : List Value) (w : World) (o : Nat), KeepsOthers w (w.setCells g o cs)
  | [], w, o => KeepsOthers.refl w
  | c :: cs, w, o => (KeepsOthers.setCell w ⟨g, o, none⟩ c).trans (kg g cs _ _)
theorem ym {B : Nat} (g : Nat) (hg : B ≤ g) : ∀ (cs : List Value) (w : World) (o : Nat), Below B w (w.setCells g o cs)
  | [], w, o => Below.refl _ w
  | c :: cs, w, o => ((Below.refl B w).setCell (p := ⟨g, o, none⟩) hg c).trans (ym g hg cs _ _)
/-- A block that holds no cells is turned: all cells are kept. -/
theorem qae {w w' : World} {row : Option Nat} (hg : w.grownBy w' row) (hr : ∀ r, row = some r → ∃ o : Obj, w.heap[r]? = some o ∧ o.isCells = false) : Kept (fun _ => True) w w' := ⟨hg.size, fun b i v _ hc => by
  by_cases e : row = some b
  · obtain ⟨o, ho, hn⟩ := hr b e
    unfold World.cell? at hc
    simp only [ho] at hc
    cases o <;> simp_all [Obj.isCells]
  · exact hg.cell hc (fun k => e k.symm)⟩
theorem Mg.calm {w0 w w' : World} {L : List Ck} {row : Option Nat} (h : Mg w0 w L) (hg : w.grownBy w' row) (hr : ∀ r, row = some r → w0.heap.size ≤ r ∧ ∃ o : Obj, w.heap[r]? = some o ∧ o.isCells = false) (hL : ∀ c ∈ L, ∃ g vs t, c = .obj g (.cells vs t)) : Mg w0 w' L := by
  refine ⟨h.bel.grown hg h.bel.size (fun k e => (hr k e).1), fun c hc => ?_, h.dis⟩
  obtain ⟨g, vs, t, rfl⟩ := hL c hc
  have h2 := h.all _ hc
  refine ⟨h2.1, (hg.block g (Array.getElem?_eq_some_iff.1 h2.2).1 (fun e => ?_)).trans h2.2⟩
  obtain ⟨_, o, ho, hn⟩ := hr g e.symm
  rw [h2.2] at ho
  cases ho
  cases hn
theorem Dt.at_true : ∀ t : Dt, t.at_ (fun _ => True) := Dt.indT fun d ts ih => Dt.at_iff.2 ⟨⟨fun _ _ _ _ => trivial, fun _ _ _ _ => trivial, fun _ _ _ _ => trivial, fun _ _ _ _ => trivial, fun _ _ _ _ => trivial⟩, fun _ _ _ _ => trivial, ih⟩
theorem Here.kept {w w' : World} {b o : Nat} {cs : List Value} (h : Here w b o cs) (hk : Kept (fun _ => True) w w') : Here w' b o cs := ⟨Nat.lt_of_lt_of_le h.1 hk.1, fun j v hj => hk.2 _ _ _ trivial (h.2 j v hj)⟩
theorem qfa : Is1 Tryz.prog 39 := ⟨⟨_, Tryz.underlying39, rfl⟩, by kernel_rfl⟩
theorem vv : IsS Tryz.prog 53 11 := ⟨⟨_, Tryz.underlying53⟩, by kernel_rfl⟩
/-- What is handed to a round: a place, and a datum that was there. -/
def Al (w : World) : Type := { x : Int × Dt // x.2.rd w }
def encA {w : World} (x : Al w) : Array Value := #[.int .i64 x.1.1, .agg (x.1.2.d.cells x.1.2.ts.length).toArray]
/-- What a round keeps: what lay there, and the iterator's own box. -/
def KpB (n₀ Bs : Nat) (W W' : World) : Prop := Below n₀ W W' ∧ ∀ v, W.cell? ⟨Bs, 0, none⟩ = some v → W'.cell? ⟨Bs, 0, none⟩ = some v
theorem KpB.refl (n₀ Bs : Nat) (W : World) : KpB n₀ Bs W W := ⟨Below.refl _ _, fun _ h => h⟩
theorem KpB.trans {n₀ Bs : Nat} {A B C : World} (h : KpB n₀ Bs A B) (k : KpB n₀ Bs B C) : KpB n₀ Bs A C := ⟨h.1.trans k.1, fun v hv => k.2 v (h.2 v hv)⟩
set_option maxRecDepth 100000 in
set_option maxHeartbeats 400000 in
theorem back_stops {wA w0 : World} {Bs : Nat} {so : Option Addr} {ca : Nat} {ts : List Dt} (hR : Rt wA so ts) (hD : ∀ t ∈ ts, t.rd wA) (hb : Below wA.heap.size wA w0) (hBs : w0.cell? ⟨Bs, 0, none⟩ = some (.slice so ts.length ca)) (hBl : Bs < w0.heap.size) (hl : ts.length ≤ 1000000000) (n : Nat) :
    SeqStopsK Fence.wide n Tryz.prog 118 #[.pointer (some ⟨Bs, 0, none⟩)] (encA (w := wA)) (KpB wA.heap.size Bs) (fun ys => ys.map (fun x => x.1.2) = ts.reverse) (fun _ => True) ts.length w0 := by
  intro l J Jx W hW hJ hJx hY h0
  have hF : ∀ f, Fence.wide.fn f := fun _ => trivial
  rw [List.append_toArray]
  refine i_walk (l := [(0, .func (.yield l) #[] #[]), (1, .pointer (some ⟨Bs, 0, none⟩))]) Tryz.func118 rfl trivial rfl rfl rfl rfl ?_
  intro Q hret hnorm a hA hdf
  have hc : W.cell? ⟨Bs, 0, none⟩ = some (.slice so ts.length ca) := (hW.cell (p := ⟨Bs, 0, none⟩) hBl).trans hBs
  refine uh fun K1 hK1 => wpIn_region_lit ?_
  refine vh (v := .slice so ts.length ca) hF hA rfl rfl rfl (by intro c h; cases h) (jb rfl (jw qfa hc)) fun a hA h2 => ?_
  refine vh (v := .int .i64 (ts.length : Nat)) hF hA rfl rfl rfl (by intro c h; cases h) (ze Tryz.underlying39 rfl) fun a hA h3 => ?_
  refine vh (v := .int .i64 ((ts.length : Int) - 1)) hF hA rfl rfl rfl (by intro c h; cases h) (qg rfl rfl (ar_sub (in_i64 (by omega) (by omega)))) fun a hA h4 => ?_
  refine vh (v := .int .i64 ((ts.length : Int) - 1)) hF hA rfl rfl rfl (by intro c h; cases h) (zq rfl) fun a hA h5 => ?_
  refine wpListIn_nil (hK1 _ _ (wpIn_block ?_))
  refine i_loop (fun k a W' => k ≤ ts.length ∧ Sd a 19 [(0, .func (.yield l) #[] #[]), (1, .pointer (some ⟨Bs, 0, none⟩)), (3, .int .i64 ((k : Int) - 1))] ∧ a.defers = [] ∧ KpB wA.heap.size Bs W W' ∧ ∃ pre, J pre W' ∧ pre.map (fun x => x.1.2) = (ts.drop k).reverse) ts.length ⟨Nat.le_refl _, hA.keep _ ⟨rfl, rfl, rfl, trivial⟩, by rw [h5, h4, h3, h2, hdf], KpB.refl _ _ _, [], h0, by rw [List.drop_length]; rfl⟩ ?_
  rintro k a W' ⟨hk, hA, hd, hKp, pre, hJp, hpre⟩
  have hc' := hKp.2 _ hc
  refine uh fun K2 hK2 => uh fun K3 hK3 => wpIn_region_lit ?_
  refine vh (v := .int .i64 ((k : Int) - 1)) hF hA rfl rfl rfl (by intro c h; cases h) (zj rfl) fun a hA h2 => ?_
  refine vh (v := .bool (decide ((0 : Int) ≤ (k : Int) - 1))) hF hA rfl rfl rfl (by intro c h; cases h) (qg rfl rfl xz) fun a hA h3 => ?_
  refine wpListIn_nil (hK3 _ _ ?_)
  refine wpIn_cond_split (t := decide ((0 : Int) ≤ (k : Int) - 1)) (hA.ev rfl) (fun hq => ?_) (fun hq => ?_)
  · have hq' := of_decide_eq_true hq
    refine wpIn_skip (hK2 _ _ (uh fun K4 hK4 => wpIn_block (uh fun K5 hK5 => wpIn_region_lit ?_)))
    obtain ⟨t1, b1, o1, it1, mt1, rt1, lt1, Ht1⟩ := kidL hR hD (i := k - 1) (by omega)
    refine vh (v := .func (.yield l) #[] #[]) hF hA rfl rfl rfl (by intro c h; cases h) (zj rfl) fun a hA h4 => ?_
    refine vh (v := .int .i64 ((k : Int) - 1)) hF hA rfl rfl rfl (by intro c h; cases h) (zj rfl) fun a hA h5 => ?_
    refine vh (v := .slice so ts.length ca) hF hA rfl rfl rfl (by intro c h; cases h) (jb rfl (jw qfa hc')) fun a hA h6 => ?_
    refine vh (v := .int .i64 ((k : Int) - 1)) hF hA rfl rfl rfl (by intro c h; cases h) (zj rfl) fun a hA h7 => ?_
    refine vh (v := .pointer (some ⟨b1, o1 + (k - 1) * 11, none⟩)) hF hA rfl rfl rfl (by intro c h; cases h) (zp (k := k - 1) Tryz.underlying39 (by kernel_rfl) rfl rfl (by omega) lt1 (by omega)) fun a hA h8 => ?_
    have hbW : Below wA.heap.size wA W' := (hb.trans (hW.mono hb.size)).trans hKp.1
    refine vh (v := .agg (t1.d.cells t1.ts.length).toArray) hF hA rfl rfl rfl (by intro c h; cases h) (jb rfl (jv vv _ rfl (fun j v hj => (hbW.cell Ht1.1).trans (Ht1.2 j v hj)))) fun a hA h9 => ?_
    have hlen : pre.length < ts.length := by
      have := congrArg List.length hpre
      simp only [List.length_map, List.length_reverse, List.length_drop] at this
      omega
    refine i_yield (k := l) (vs := [.int .i64 ((k : Int) - 1), .agg (t1.d.cells t1.ts.length).toArray]) (R := fun b W2 => (b = true ∧ J (pre ++ [⟨((k : Int) - 1, t1), rt1⟩]) W2 ∧ KpB wA.heap.size Bs W' W2) ∨ (b = false ∧ Jx (pre ++ [⟨((k : Int) - 1, t1), rt1⟩]) W2)) hF rfl hA rfl rfl rfl (by intro c h; cases h) (calls_yield rfl rfl) ?_ ?_
    · have := hY pre ⟨((k : Int) - 1, t1), rt1⟩ W' hJp hlen
      obtain ⟨fn, tmps, assign, body, e1, e2⟩ := this
      refine ⟨fn, tmps, assign, body, e1, e2.mono ?_⟩
      rintro e W2 (⟨rfl, h1, h2⟩ | ⟨rfl, h1⟩)
      · exact ⟨true, rfl, .inl ⟨rfl, h1, h2⟩⟩
      · exact ⟨false, rfl, .inr ⟨rfl, h1⟩⟩
    · rintro b W2 hR2 a hA h10
      refine vh (v := .bool (!b)) hF hA rfl rfl rfl (by intro c h; cases h) (zb rfl zn) fun a hA h11 => ?_
      refine wpListIn_nil (hK5 _ _ ?_)
      have hdd : a.defers = [] := by rw [h11, h10, h9, h8, h7, h6, h5, h4, h3, h2, hd]
      rcases hR2 with ⟨rfl, hJ2, hK2'⟩ | ⟨rfl, hJx2⟩
      · refine wpIn_cond_false (hA.ev rfl) (wpIn_skip (hK4 _ _ (wpIn_region_lit ?_)))
        refine vh (v := .int .i64 ((k : Int) - 1)) hF hA rfl rfl rfl (by intro c h; cases h) (zj rfl) fun a hA g1 => ?_
        refine vh (v := .int .i64 (((k - 1 : Nat) : Int) - 1)) hF hA rfl rfl rfl (by intro c h; cases h) (qg rfl rfl (ar_sub ((in_i64 (by omega) (by omega)).trans (by omega)))) fun a hA g2 => ?_
        refine vh (v := .int .i64 (((k - 1 : Nat) : Int) - 1)) hF hA rfl rfl rfl (by intro c h; cases h) (zq rfl) fun a hA g3 => ?_
        refine wpListIn_nil ?_
        refine ⟨k - 1, by omega, by omega, hA.keep _ ⟨rfl, rfl, rfl, trivial⟩, by rw [g3, g2, g1, hdd], hKp.trans hK2', _, hJ2, ?_⟩
        rw [List.map_append, hpre, List.drop_eq_getElem_cons (show k - 1 < ts.length by omega), List.reverse_cons, show k - 1 + 1 = k by omega]
        congr 1
        have := (List.getElem?_eq_some_iff.1 it1).2
        rw [this]
        rfl
      · refine wpIn_cond_true (hA.ev rfl) (wpIn_ret ?_)
        refine hret _ _ ?_
        exact kl (rs := []) (vs := []) (v := .tuple #[]) (hA.sl hdd) rfl .nil rfl ⟨⟨_, rfl⟩, .inr ⟨_, trivial, hJx2⟩⟩
  · have hq' := of_decide_eq_false hq
    refine wpIn_exit ?_
    obtain rfl : k = 0 := by omega
    refine hnorm _ _ ?_
    exact kl (rs := []) (vs := []) (v := .tuple #[]) (hA.sl (by rw [h3, h2, hd])) rfl .nil rfl ⟨⟨_, rfl⟩, .inl ⟨pre, hpre, hJp⟩⟩
theorem back_any {w : World} {so : Option Addr} {k ca : Nat} : Calls Tryz.prog 98 #[.slice so k ca] w fun e w' => e = .returned (.func (.func 118) #[] #[.pointer (some ⟨w.heap.size, 0, none⟩)]) ∧ w' = w.alloc (.cells #[.slice so k ca] 39) := by
  refine qr (l := [(0, .slice so k ca)]) Tryz.func98 rfl Tryz.ntmps98 rfl rfl ?_
  intro Q hret hnorm hP a hA
  refine wp_seq_k (fun K1 hK1 => ?_)
  refine wp_region_lit ?_
  refine jd (v := .pointer (some ⟨w.heap.size, 0, none⟩)) (w' := w.alloc (.cells #[.slice so k ca] 39)) hA rfl rfl rfl (zd (vs := [.slice so k ca]) rfl rfl) fun a hA => ?_
  refine jd hA rfl rfl rfl (zq rfl) fun a hA => ?_
  refine qa (hK1 _ _ (wp_seq_k (fun K2 hK2 => wp_region_lit ?_)))
  refine jd hA rfl rfl rfl (yd rfl) fun a hA => ?_
  refine jd hA rfl rfl rfl (zq rfl) fun a hA => ?_
  refine qa (hK2 _ _ (wp_ret (hret _ _ ?_)))
  exact kl (rs := [.tmp 2]) hA rfl (.cons (qe rfl) .nil) rfl ⟨rfl, rfl⟩
def ZC : List Value := [.int .i64 0, .int .i64 0, .bool false, .slice none 0 0, .slice none 0 0, .bool false, .slice none 0 0, .slice none 0 0, .string ⟨#[]⟩, .slice none 0 0, .slice none 0 0]
theorem two_objs {g1 g2 : Nat} {v1 v2 : Array Value} {t : TypeId} : ∀ c ∈ [Ck.obj g1 (.cells v1 t), Ck.obj g2 (.cells v2 t)], ∃ g vs t, c = Ck.obj g (.cells vs t) := by
  intro c hc
  simp only [List.mem_cons, List.not_mem_nil, or_false] at hc
  rcases hc with rfl | rfl
  · exact ⟨_, _, _, rfl⟩
  · exact ⟨_, _, _, rfl⟩
/-- The last datum so far lies in the box. -/
def LinkI (w : World) (g3 g4 : Nat) (u : Tr) (pre : List (Al w)) (W : World) : Prop := ∃ z : Dt, Mg w W [.obj g4 (.cells ZC.toArray 53), .obj g3 (.cells (z.d.cells z.ts.length).toArray 53)] ∧ z.rd W ∧ z.at_ (fun b => b ≠ g3 ∧ b ≠ g4) ∧ z.tr = zu ((pre.map (fun x => x.1.2.tr)).reverse) u
theorem linkI_own (w : World) (g3 g4 : Nat) (u : Tr) (B : Nat) (hB : w.heap.size ≤ B) : OwnFrom B (LinkI w g3 g4 u) := by
  rintro pre W W' row ⟨z, hM, hr, ha, ht⟩ hg hrow
  exact ⟨z, hM.calm hg (fun r e => ⟨Nat.le_trans hB (hrow r e).1, (hrow r e).2⟩) two_objs, Dt.kept (qae hg (fun r e => (hrow r e).2)) _ hr (Dt.at_true _), ha, ht⟩
set_option maxRecDepth 100000 in
set_option maxHeartbeats 1000000 in
theorem linked_any {w : World} {so : Option Addr} {ca : Nat} {ts : List Dt} {u : Dt} (hR : Rt w so ts) (hD : ∀ t ∈ ts, t.rd w) (hu : u.rd w) (hl : ts.length ≤ 1000000000) : Calls Tryz.prog 79 #[.slice so ts.length ca, .agg (u.d.cells u.ts.length).toArray] w fun e w' => ∃ t2 : Dt, e = .returned (.agg (t2.d.cells t2.ts.length).toArray) ∧ (t2.rd w' ∧ t2.tr = zu (ts.map Dt.tr) u.tr) ∧ Below w.heap.size w w' := by
  refine (callsIn_wide (n := 5)).1 ?_
  have hF : ∀ f, Fence.wide.fn f := fun _ => trivial
  refine i_walkM (l := [(0, .slice so ts.length ca), (1, .agg (u.d.cells u.ts.length).toArray)]) Tryz.func79 rfl trivial rfl rfl rfl rfl ?_
  intro Q hret a hA hdf
  have hM : Mg w w [] := Mg.start w
  refine uh fun K1 hK1 => wpIn_region_lit ?_
  refine i_new (vs := u.d.cells u.ts.length) (t := 53) hF hA hM rfl rfl rfl (by intro c h; cases h) (fun g => .pointer (some ⟨g, 0, none⟩)) (zd rfl rfl) (by decide) ?_
  intro g3 W1 hM hg3 hg3' hB1 _ a hA h2
  refine i_new (vs := ZC) (t := 53) hF hA hM rfl rfl rfl (by intro c h; cases h) (fun g => .pointer (some ⟨g, 0, none⟩)) (qk (z := .agg ZC.toArray) (by kernel_rfl) rfl) (by decide) ?_
  intro g4 W2 hM hg4 hg4' hB2 _ a hA h3
  refine wpListIn_nil (hK1 _ _ (uh fun K2 hK2 => uh fun K3 hK3 => wpIn_region_lit ?_))
  refine vh (v := .slice so ts.length ca) hF hA rfl rfl rfl (by intro c h; cases h) (zj rfl) fun a hA h4 => ?_
  refine i_call (R := fun W3 => W3 = W2.alloc (.cells #[.slice so ts.length ca] 39)) hF rfl hA rfl rfl rfl (by intro c h; cases h) (zf rfl rfl (fun w => by kernel_rfl)) (callsIn_wide.2 back_any) ?_
  rintro W3 hW3 a hA h5
  refine wpListIn_nil (hK3 _ _ (wpIn_block ?_))
  have hB3 : Below W2.heap.size W2 W3 := hW3 ▸ (Below.refl _ W2).alloc (Nat.le_refl _) _
  have hs3 : W3.heap.size = W2.heap.size + 1 := by rw [hW3]; simp
  have hc3 : W3.cell? ⟨W2.heap.size, 0, none⟩ = some (.slice so ts.length ca) := by
    rw [hW3, cell_of_row _ _ _ _ _ _ (heap_alloc_new W2 _)]; rfl
  replace hM := hM.call hB3
  have hw2 : w.heap.size ≤ W2.heap.size := by omega
  have hur : u.rd W3 := Dt.keep hM.bel _ hu
  have hua : u.at_ (fun b => b ≠ g3 ∧ b ≠ g4) := Dt.at_mono (fun b hb => by constructor <;> omega) _ (Dt.at_lt _ hu)
  refine wpIn_rangeFunc_ownH (F := Fence.wide) rfl (by decide) (gf := 118) (lb := #[.pointer (some ⟨W2.heap.size, 0, none⟩)]) (hA.ev rfl) trivial (fun us w => by kernel_rfl)
    (back_stops hR hD hM.bel hc3 (by omega) hl _) KpB.trans ?hkb (Below.refl _ _) (fun _ => rfl)
    (LinkI w g3 g4 u.tr) (fun _ _ _ => False) (linkI_own w g3 g4 u.tr _ (by omega)) (fun _ _ _ _ _ hs _ _ => hs)
    ⟨u, hM, hur, hua, rfl⟩
    (fun x a' W => ∃ Bx, Sd a' 16 [(3, .pointer (some ⟨g3, 0, none⟩)), (4, .pointer (some ⟨g4, 0, none⟩)), (6, .pointer (some ⟨Bx, 0, none⟩))] ∧ Here W Bx 0 (x.1.2.d.cells x.1.2.ts.length))
    (fun x a' _ X Y row hs hg hr => by obtain ⟨Bx, h1, h2⟩ := hs; exact ⟨Bx, h1, h2.kept (qae hg (fun r e => (hr r e).2))⟩)
    ?assign ?body ?done ?stop
  case hkb =>
    intro W l o o' hl1 hl2 hl3 _
    refine ⟨⟨rfl, rfl, rfl, (grownBy_putObj' W l o').size, fun k hk => ?_⟩, fun v hv => ?_⟩
    · by_cases hk2 : k < W.heap.size
      · exact (grownBy_putObj' W l o').block k hk2 (fun e => by cases e; omega)
      · have := (Array.getElem?_eq_some_iff.1 hl2).1; omega
    · exact (grownBy_putObj' W l o').cell hv (fun e => by have e' : W2.heap.size = l := Option.some.inj e; omega)
  case assign =>
    rintro l pre x W K ⟨z, hMz, hrz, haz, htz⟩ hK
    have hA1 : Sd { tmps := (a.tmps.setIfInBounds 9 (.int .i64 x.1.1)).setIfInBounds 10 (.agg (x.1.2.d.cells x.1.2.ts.length).toArray), defers := [] } 16 _ := Sl.put (Sl.put hA (d := 9) rfl (.int .i64 x.1.1)) (d := 10) rfl (.agg (x.1.2.d.cells x.1.2.ts.length).toArray)
    have hF2 : ∀ f, (Fence.wide.inRound l).fn f := fun _ => trivial
    have hxr : x.1.2.rd W := Dt.keep hMz.bel _ x.2
    simp only [encA, List.zip_toArray, List.zip_cons_cons, List.zip_nil_left, List.zip_nil_right, List.foldl_toArray', List.foldl_toArray, List.foldl_cons, List.foldl_nil]
    refine wpIn_region_lit ?_
    refine i_new (a := { tmps := (a.tmps.setIfInBounds 9 (.int .i64 x.1.1)).setIfInBounds 10 (.agg (x.1.2.d.cells x.1.2.ts.length).toArray), defers := [] }) (vs := ZC) (t := 53) hF2 hA1 hMz rfl rfl rfl (by intro c h; cases h) (fun g => .pointer (some ⟨g, 0, none⟩)) (qk (z := .agg ZC.toArray) (by kernel_rfl) rfl) (by decide) ?_
    intro Bx W6 hM6 hBx hBx' hB6 hK6 a6 hA6 _
    refine i_set (w' := W6.setCells Bx 0 (x.1.2.d.cells x.1.2.ts.length)) hF2 hA6 rfl rfl (by intro c h; cases h) (qj rfl rfl rfl (by kernel_rfl) hM6 0 rfl rfl (ky x.1.2)) ?_
    have hM7 : Mg w (W6.setCells Bx 0 (x.1.2.d.cells x.1.2.ts.length)) (.obj Bx (.cells (x.1.2.d.cells x.1.2.ts.length).toArray 53) :: [.obj g4 (.cells ZC.toArray 53), .obj g3 (.cells (z.d.cells z.ts.length).toArray 53)]) := Mg.puts (x.1.2.d.cells x.1.2.ts.length) W6 _ ZC 0 hM6 0 rfl
    have hkp : Kept (· ≠ Bx) W6 (W6.setCells Bx 0 (x.1.2.d.cells x.1.2.ts.length)) := vq _ _ _ _
    have hks := hK6.trans (kg Bx (x.1.2.d.cells x.1.2.ts.length) W6 0)
    have hsW := hMz.bel.size
    have hbs := (hB6.mono hsW).trans (ym (B := w.heap.size) Bx (by omega) (x.1.2.d.cells x.1.2.ts.length) W6 0)
    revert hkp hM7 hks hbs
    generalize W6.setCells Bx 0 (x.1.2.d.cells x.1.2.ts.length) = W7
    intro hM7 hkp hks hbs
    refine wpListIn_nil (hK _ _ (hks.from _) ⟨hbs, fun v hv => hkp.2 _ _ _ (show W2.heap.size ≠ Bx by have := cell_lt hv; omega) ((hB6.cell (p := ⟨W2.heap.size, 0, none⟩) (cell_lt hv)).trans hv)⟩ ⟨z, hM7.sub (cn (.refl _)), Dt.kept hkp _ (Dt.keep hB6 _ hrz) (Dt.at_mono (fun b hb => by intro e; omega) _ (Dt.at_lt _ hrz)), haz, htz⟩ ⟨Bx, hA6.keep _ ⟨rfl, rfl, rfl, trivial⟩, (Array.getElem?_eq_some_iff.1 (hM7.obj 0 rfl)).1, fun j v hj => by rw [Nat.zero_add]; exact hM7.cell 0 rfl j hj⟩)
  case body =>
    rintro l pre x a' W hl1 _ ⟨z, hMz, hrz, haz, htz⟩ ⟨Bx, hA, hH⟩ _
    have hF2 : ∀ f, (Fence.wide.inRound l).fn f := fun _ => trivial
    have hxr : x.1.2.rd W := Dt.keep hMz.bel _ x.2
    refine wpIn_block (wpIn_region_lit ?_)
    refine vh (v := .agg (x.1.2.d.cells x.1.2.ts.length).toArray) hF2 hA rfl rfl rfl (by intro c h; cases h) (jb rfl (jv vv _ rfl (fun j v hj => by have := hH.2 j v hj; rwa [Nat.zero_add] at this ⊢))) fun a hA h6 => ?_
    refine vh (v := .agg (z.d.cells z.ts.length).toArray) hF2 hA rfl rfl rfl (by intro c h; cases h) (za hMz vv rfl 1 rfl (cs := z.d.cells z.ts.length) rfl rfl) fun a hA h7 => ?_
    refine vh (v := .slice (some ⟨W.heap.size, 0, none⟩) 2 2) (w' := W.alloc (.cells (cellsOf [x.1.2, z]).toArray 53)) hF2 hA rfl rfl rfl (by intro c h; cases h) (zv rfl (by kernel_rfl)) fun a hA h8 => ?_
    obtain ⟨z2, hz2⟩ : ∃ z2 : Dt, z2 = ud W.heap.size x.1.2 z := ⟨_, rfl⟩
    refine vh (v := .agg (z2.d.cells z2.ts.length).toArray) hF2 hA rfl rfl rfl (by intro c h; cases h) (by rw [hz2, qmc]; exact qn rfl (fun w => by kernel_rfl)) fun a hA h9 => ?_
    have hB4 : Below W.heap.size W (W.alloc (.cells (cellsOf [x.1.2, z]).toArray 53)) := (Below.refl _ W).alloc (Nat.le_refl _) _
    have hM4 := hMz.call hB4
    have hnew := heap_alloc_new W (.cells (cellsOf [x.1.2, z]).toArray 53)
    have hK4 : KeepsOthers W (W.alloc (.cells (cellsOf [x.1.2, z]).toArray 53)) := KeepsOthers.alloc _ _
    have hs4 : (W.alloc (.cells (cellsOf [x.1.2, z]).toArray 53)).heap.size = W.heap.size + 1 := by simp
    have hg3W : g3 < W.heap.size := (Ck.lt (hMz.has 1 rfl) g3 rfl).2
    have hg4W : g4 < W.heap.size := (Ck.lt (hMz.has 0 rfl) g4 rfl).2
    have hsW := hMz.bel.size
    revert hB4 hM4 hnew hK4 hs4
    generalize W.alloc (.cells (cellsOf [x.1.2, z]).toArray 53) = W4
    intro hB4 hM4 hnew hK4 hs4
    refine i_set (w' := W4.setCells g3 0 (z2.d.cells z2.ts.length)) hF2 hA rfl rfl (by intro c h; cases h) (qj rfl rfl rfl (by kernel_rfl) hM4 1 rfl rfl (ky z2)) ?_
    refine wpListIn_nil ?_
    have hkp : Kept (· ≠ g3) W4 (W4.setCells g3 0 (z2.d.cells z2.ts.length)) := vq _ _ _ _
    have hM5 : Mg w (W4.setCells g3 0 (z2.d.cells z2.ts.length)) [.obj g4 (.cells ZC.toArray 53), .obj g3 (.cells (z2.d.cells z2.ts.length).toArray 53)] := Mg.puts (z2.d.cells z2.ts.length) W4 _ (z.d.cells z.ts.length) 0 hM4 1 rfl
    have hx5 : x.1.2.rd (W4.setCells g3 0 (z2.d.cells z2.ts.length)) := Dt.keep hM5.bel _ x.2
    have hz5 : z.rd (W4.setCells g3 0 (z2.d.cells z2.ts.length)) := Dt.kept hkp _ (Dt.keep hB4 _ hrz) (Dt.at_mono (fun b hb => hb.1) _ haz)
    have hxa : x.1.2.at_ (fun b => b ≠ g3 ∧ b ≠ g4) := Dt.at_mono (fun b hb => by constructor <;> omega) _ (Dt.at_lt _ x.2)
    have hks := hK4.trans (kg g3 (z2.d.cells z2.ts.length) W4 0)
    have hbs := (hB4.mono hsW).trans (ym (B := w.heap.size) g3 (by omega) (z2.d.cells z2.ts.length) W4 0)
    revert hkp hM5 hx5 hz5 hks hbs
    generalize W4.setCells g3 0 (z2.d.cells z2.ts.length) = W5
    intro hkp hM5 hx5 hz5 hks hbs
    refine ⟨hks.from _, ⟨hbs, fun v hv => hkp.2 _ _ _ (show W2.heap.size ≠ g3 by omega) ((hB4.cell (p := ⟨W2.heap.size, 0, none⟩) (cell_lt hv)).trans hv)⟩, z2, hM5, ?_, ?_, ?_⟩
    · rw [hz2]
      refine pairD_rd (by have := hkp.1; omega) (fun p v hp => hkp.2 _ _ _ (show W.heap.size ≠ g3 by omega) ?_) hx5 hz5
      rw [cell_of_row _ _ _ _ _ _ hnew]
      simpa using hp
    · rw [hz2]
      exact pairD_at ⟨by omega, by omega⟩ hxa haz
    · rw [hz2, pairD_tr, List.map_append, List.reverse_append]
      show Tr.mk 8 0 Q6.zero ⟨#[]⟩ [] [x.1.2.tr, z.tr] = zu (x.1.2.tr :: _) u.tr
      rw [htz]
      rfl
  case done =>
    rintro D xs W hD1 hS ⟨z, hMz, hrz, haz, htz⟩ hDf
    have hA2 : Sd { a with defers := { target := .collected D, args := #[] } :: a.defers } 16 _ := hA
    revert hA2
    generalize hae : ({ a with defers := { target := .collected D, args := #[] } :: a.defers } : Act) = a2
    intro hA2
    have had : a2.defers = [{ target := .collected D, args := #[] }] := by rw [← hae]; show _ :: a.defers = _; rw [h5, h4, h3, h2, hdf]
    refine hK2 _ _ (uh fun K6 hK6 => wpIn_region_lit ?_)
    refine vh (v := .agg (z.d.cells z.ts.length).toArray) hF hA2 rfl rfl rfl (by intro c h; cases h) (za hMz vv rfl 1 rfl (cs := z.d.cells z.ts.length) rfl rfl) fun a3 hA3 h6 => ?_
    refine i_set (w' := W.setCells g4 0 (z.d.cells z.ts.length)) hF hA3 rfl rfl (by intro c h; cases h) (qj rfl rfl rfl (by kernel_rfl) hMz 0 rfl rfl (ky z)) ?_
    have hM5 : Mg w (W.setCells g4 0 (z.d.cells z.ts.length)) [.obj g4 (.cells (z.d.cells z.ts.length).toArray 53), .obj g3 (.cells (z.d.cells z.ts.length).toArray 53)] := Mg.puts (z.d.cells z.ts.length) W _ ZC 0 hMz 0 rfl
    have hz5 : z.rd (W.setCells g4 0 (z.d.cells z.ts.length)) := Dt.kept (vq _ _ _ _) _ hrz (Dt.at_mono (fun b hb => hb.2) _ haz)
    have hD5 := (kg g4 (z.d.cells z.ts.length) W 0).same D _ hDf rfl
    have hgr := grownBy_putObj' (W.setCells g4 0 (z.d.cells z.ts.length)) D (.deferred none)
    have hM6 := hM5.calm hgr (fun r e => by cases e; exact ⟨by omega, _, hD5, rfl⟩) two_objs
    have hz6 := Dt.kept (qae hgr (fun r e => by cases e; exact ⟨_, hD5, rfl⟩)) _ hz5 (Dt.at_true _)
    refine wpListIn_nil (hK6 _ _ (wpIn_ret (hret _ _ ?_)))
    show LeavesInM _ _ _ _ _ _ a3.defers .returning _
    rw [h6, had]
    refine ⟨by simp, .inl ⟨D, _, rfl, run_takeDeferred hD5, ?_⟩⟩
    have hfin : (fun (e : Ending) (w' : World) => ∃ t2 : Dt, e = .returned (.agg (t2.d.cells t2.ts.length).toArray) ∧ (t2.rd w' ∧ t2.tr = zu (ts.map Dt.tr) u.tr) ∧ Below w.heap.size w w') (.returned (.agg (z.d.cells z.ts.length).toArray)) ((W.setCells g4 0 (z.d.cells z.ts.length)).putObj D (.deferred none)) := by
      refine ⟨z, rfl, ⟨hz6, ?_⟩, hM6.bel⟩
      rw [htz]
      have e1 : xs.map (fun x => x.1.2.tr) = (xs.map (fun x => x.1.2)).map Dt.tr := by rw [List.map_map]; rfl
      rw [e1, show xs.map (fun x => x.1.2) = ts.reverse from hS, List.map_reverse, List.reverse_reverse]
    exact (kl (P := Tryz.prog) (fn := Tryz.f79) (Z := (fun (e : Ending) (w' : World) => ∃ t2 : Dt, e = .returned (.agg (t2.d.cells t2.ts.length).toArray) ∧ (t2.rd w' ∧ t2.tr = zu (ts.map Dt.tr) u.tr) ∧ Below w.heap.size w w')) (v := .agg (z.d.cells z.ts.length).toArray) (rs := [.cell 4 53]) (vs := [.agg (z.d.cells z.ts.length).toArray]) hA3 rfl (.cons (zr hM6 vv rfl 0 rfl (cs := z.d.cells z.ts.length) rfl rfl) .nil) rfl hfin).2
  case stop =>
    rintro D c pre W _ _ h _
    exact h.elim
theorem LiE_isS_53 : IsS Tryz.prog 53 11 := ⟨⟨_, Tryz.underlying53⟩, by kernel_rfl⟩
theorem yn {w : World} {so : Option Addr} {ca : Nat} {ts : List Dt} (hR : Rt w so ts) (hD : ∀ t ∈ ts, t.rd w) (hl : ts.length ≤ 1000000000) (hT : Tabs8 w) {b : Bool} (h : (ts.all fun t => qz qh t.tr) = b) : Calls Tryz.prog 103 #[.slice so ts.length ca] w fun e w' => e = .returned (.bool b) ∧ Below w.heap.size w w' := h ▸ qjj hR hD hl hT
theorem uj {w : World} {so : Option Addr} {ca : Nat} {t : Dt} (hR : Rt w so [t]) (ht : t.rd w) (hT : Tabs8 w) {b : Bool} (h : qz qh t.tr = b) : Calls Tryz.prog 103 #[.slice so 1 ca] w fun e w' => e = .returned (.bool b) ∧ Below w.heap.size w w' :=
 yn (ts := [t]) hR (fun u hu => by rw [List.mem_singleton.1 hu]; exact ht) (by simp) hT (by rw [List.all_cons, List.all_nil, Bool.and_true]; exact h)
theorem yp {w0 w : World} {t : Dt} (h0 : Below w0.heap.size w0 w) (ht0 : t.rd w0) {so : Option Addr} {ca : Nat} {ts : List Dt} (hR : Rt w so ts) (hD : ∀ t ∈ ts, t.rd w) (hl : ts.length ≤ 1000000000) (hb : t.tr.bulk ≤ 1000000000) (hT : Tabs8 w) : Calls Tryz.prog 87 #[.agg (t.d.cells t.ts.length).toArray, .slice so ts.length ca] w fun e w' => (∃ so' ca' ys, e = .returned (.tuple #[.slice so' (ys : List Dt).length ca', .int .i64 0]) ∧ ((qz qh t.tr && (ts.all fun t => qz qh t.tr)) = true ∧ jh t.tr = some (ys.map Dt.tr) ∧ (∀ x ∈ ys, x.rd w0) ∧ ys.length ≤ t.tr.bulk) ∧ Mg w w' [.row 53 11 (.slice so' ys.length ca') ys.length (cellsOf ys)]) ∨ (e = .returned (.tuple #[.slice none 0 0, .int .i64 10]) ∧ ((qz qh t.tr && (ts.all fun t => qz qh t.tr)) = true ∧ jh t.tr = none) ∧ Below w.heap.size w w') ∨ (e = .returned (.tuple #[.slice none 0 0, .int .i64 2]) ∧ (qz qh t.tr && (ts.all fun t => qz qh t.tr)) = false ∧ Below w.heap.size w w') := by
 have ht := Dt.keep h0 _ ht0
 have M : Mg w w ([]) := Mg.start w
 refine qr (l := [(0, .agg (t.d.cells t.ts.length).toArray), (1, .slice so ts.length ca)]) Tryz.func87 rfl Tryz.ntmps87 rfl rfl ?_
 intro Q hret hnorm hP a A
 refine wsk fun K1 hK1 => wrl (zg (vs := (t.d.cells t.ts.length)) (t := 53) A M rfl rfl rfl pg (zd rfl rfl) (by decide) ?_)
 intro g2 w3 M a A
 iterate 2 refine sda A λa A↦?_
 refine qa (hK1 _ _ (wsk fun K4 hK4 => wsk fun K5 hK5 => wrl (sdo A (za M LiE_isS_53 rfl 0 rfl (cs := (t.d.cells t.ts.length)) rfl rfl) λa A↦?_)))
 refine yh (e := 53) (sz := 11) (m := 1) (vs := cellsOf [t]) A M rfl rfl rfl (zv rfl (by kernel_rfl)) rfl rfl (.inl (by decide)) ?_
 intro g6 w7 M a A
 rcases tf (qz qh t.tr) with hb8 | hb8
 ·
  refine gcl A M (ef rfl rfl) (uj (vg (M.has 0 rfl)).1 (Dt.keep M.bel _ ht) (hT.below M.bel) hb8) fun w10 hb9 M a A => ?_
  refine sdo (v := .bool false) A (zb rfl zn) λa A↦?_
  iterate 2 refine sdm A λa A↦?_
  rcases tf ((ts.all fun t => qz qh t.tr)) with hb11 | hb11
  ·
   refine gcl A M (ef rfl rfl) (yn (hR.below M.bel) (fun t ht => Dt.keep M.bel _ (hD t ht)) hl (hT.below M.bel) hb11) fun w13 hb12 M a A => ?_
   refine sdo (v := .bool false) A (zb rfl zn) λa A↦?_
   refine sdk (v := .bool false) A λa A↦?_
   refine qa (hK5 _ _ (wp_cond_false (A.ev rfl) ?_))
   refine wp_skip (hK4 _ _ (wsk fun K14 hK14 => wrl (sdo A (za M LiE_isS_53 rfl 1 rfl (cs := (t.d.cells t.ts.length)) rfl rfl) λa A↦?_)))
   rcases tf ((jh t.tr).isSome) with hb15 | hb15
   ·
    refine sct A (ef rfl rfl) (qgb (h0.trans (M.bel.mono h0.size)) ht0 (qgj hb8) hb hb15) ?_
    rintro _ w17 ⟨so7, ca7, ys, rfl, ⟨hy1, hy2, hy3⟩, hM7⟩
    replace M : Mg w w17 (.row 53 11 (.slice so7 ys.length ca7) ys.length (cellsOf ys) :: .row 53 11 (.slice (some ⟨g6, 0, none⟩) 1 1) 1 (cellsOf [t]) :: .obj g2 (.cells (t.d.cells t.ts.length).toArray 53) :: []) := (M.both hM7 (qf (by simp) (qf (by simp) (qp qy))) (qf (by simp) (qp qy)))
    refine ⟨_, rfl, ?_⟩
    intro a A
    iterate 2 refine sdo A (ql (vs := [.slice so7 ys.length ca7, .int .i64 0]) rfl rfl) λa A↦?_
    iterate 2 refine sda A λa A↦?_
    refine qa (hK14 _ _ (wp_ret (hret _ _ (en2 A rfl (qe rfl) (qe rfl) ?_))))
    replace M : Mg w w17 (.row 53 11 (.slice so7 ys.length ca7) ys.length (cellsOf ys) :: []) := by
     have h9 := M.sub (cc (cn (cn (.refl _))))
     exact h9
    exact .inl ⟨_, _, ys, rfl, ⟨(by rw [hb8, hb11]; rfl), hy1, hy2, hy3⟩, M⟩
   ·
    refine gcl A M (ef rfl rfl) (qgc (h0.trans (M.bel.mono h0.size)) ht0 (qgj hb8) hb hb15) fun w19 hb18 M a A => ?_
    iterate 2 refine sdo A (ql (vs := [.slice none 0 0, .int .i64 10]) rfl rfl) λa A↦?_
    iterate 2 refine sda A λa A↦?_
    refine qa (hK14 _ _ (wp_ret (hret _ _ (en2 A rfl (qe rfl) (qe rfl) ?_))))
    exact .inr (.inl ⟨rfl, ⟨(by rw [hb8, hb11]; rfl), Option.isSome_eq_false_iff.1 hb15 |> Option.isNone_iff_eq_none.1⟩, M.bel⟩)
  ·
   refine gcl A M (ef rfl rfl) (yn (hR.below M.bel) (fun t ht => Dt.keep M.bel _ (hD t ht)) hl (hT.below M.bel) hb11) fun w21 hb20 M a A => ?_
   refine sdo (v := .bool true) A (zb rfl zn) λa A↦?_
   refine sdk (v := .bool true) A λa A↦?_
   refine qa (hK5 _ _ (wp_cond_true (A.ev rfl) ?_))
   refine wsk fun K22 hK22 => wrl ?_
   iterate 2 refine sda A λa A↦?_
   refine qa (hK22 _ _ (wp_ret (hret _ _ (en2 A rfl (qe rfl) (qe rfl) ?_))))
   exact .inr (.inr ⟨rfl, by rw [hb8, hb11]; rfl, M.bel⟩)
 ·
  refine gcl A M (ef rfl rfl) (uj (vg (M.has 0 rfl)).1 (Dt.keep M.bel _ ht) (hT.below M.bel) hb8) fun w24 hb23 M a A => ?_
  refine sdo (v := .bool true) A (zb rfl zn) λa A↦?_
  refine sdm A λa A↦?_
  iterate 3 refine qt A rfl rfl rfl λa A↦?_
  refine sdk (v := .bool true) A λa A↦?_
  refine qa (hK5 _ _ (wp_cond_true (A.ev rfl) ?_))
  refine wsk fun K25 hK25 => wrl ?_
  iterate 2 refine sda A λa A↦?_
  refine qa (hK25 _ _ (wp_ret (hret _ _ (en2 A rfl (qe rfl) (qe rfl) ?_))))
  exact .inr (.inr ⟨rfl, by rw [hb8]; rfl, M.bel⟩)
theorem items_some {w0 w : World} {t : Dt} (h0 : Below w0.heap.size w0 w) (ht : t.rd w0) (hb : t.tr.bulk ≤ 1000000000) (hT : Tabs8 w) (hs : qz qh t.tr = true) (h : (jh t.tr).isSome = true) : Calls Tryz.prog 87 #[.agg (t.d.cells t.ts.length).toArray, .slice none 0 0] w fun e w' => ∃ so' ca' ys, e = .returned (.tuple #[.slice so' (ys : List Dt).length ca', .int .i64 0]) ∧ (jh t.tr = some (ys.map Dt.tr) ∧ (∀ x ∈ ys, x.rd w0) ∧ ys.length ≤ t.tr.bulk) ∧ Mg w w' [.row 53 11 (.slice so' ys.length ca') ys.length (cellsOf ys)] := by
 refine (yp (ts := []) h0 ht (so := none) (ca := 0) (fun k => absurd rfl k) (fun t h => by cases h) (by decide) hb hT).mono ?_
 rintro e w' (⟨so', ca', ys, h1, h2, h3⟩ | ⟨_, h2, _⟩ | ⟨_, h2, _⟩)
 ·
  exact ⟨so', ca', ys, h1, h2.2, h3⟩
 ·
  rw [h2.2] at h; cases h
 ·
  rw [hs] at h2; cases h2
theorem items_none {w0 w : World} {t : Dt} (h0 : Below w0.heap.size w0 w) (ht : t.rd w0) (hb : t.tr.bulk ≤ 1000000000) (hT : Tabs8 w) (hs : qz qh t.tr = true) (h : (jh t.tr).isSome = false) : Calls Tryz.prog 87 #[.agg (t.d.cells t.ts.length).toArray, .slice none 0 0] w fun e w' => e = .returned (.tuple #[.slice none 0 0, .int .i64 10]) ∧ Below w.heap.size w w' := by
 refine (yp (ts := []) h0 ht (so := none) (ca := 0) (fun k => absurd rfl k) (fun t h => by cases h) (by decide) hb hT).mono ?_
 rintro e w' (⟨so', ca', ys, h1, h2, h3⟩ | ⟨h1, h2, h3⟩ | ⟨_, h2, _⟩)
 ·
  rw [h2.2.1] at h; cases h
 ·
  exact ⟨h1, h3⟩
 ·
  rw [hs] at h2; cases h2
theorem items_bad {w0 w : World} {t : Dt} (h0 : Below w0.heap.size w0 w) (ht : t.rd w0) (hb : t.tr.bulk ≤ 1000000000) (hT : Tabs8 w) (hs : qz qh t.tr = false) : Calls Tryz.prog 87 #[.agg (t.d.cells t.ts.length).toArray, .slice none 0 0] w fun e w' => e = .returned (.tuple #[.slice none 0 0, .int .i64 2]) ∧ Below w.heap.size w w' := by
 refine (yp (ts := []) h0 ht (so := none) (ca := 0) (fun k => absurd rfl k) (fun t h => by cases h) (by decide) hb hT).mono ?_
 rintro e w' (⟨so', ca', ys, h1, h2, h3⟩ | ⟨h1, h2, h3⟩ | ⟨h1, h2, h3⟩)
 ·
  rw [hs] at h2; cases h2.1
 ·
  rw [hs] at h2; cases h2.1
 ·
  exact ⟨h1, h3⟩
theorem LiF_isS_53 : IsS Tryz.prog 53 11 := ⟨⟨_, Tryz.underlying53⟩, by kernel_rfl⟩
theorem fitting_any {w : World} {so : Option Addr} {ca : Nat} {ts : List Dt} (hR : Rt w so ts) (hD : ∀ t ∈ ts, t.rd w) {u : Dt} (hu : u.rd w) (hb : Tr.bulks (ts.map Dt.tr) + u.tr.bulk ≤ 400000000) (hT : Tabs8 w) : Calls Tryz.prog 60 #[.slice so ts.length ca, .agg (u.d.cells u.ts.length).toArray] w fun e w' => ∃ (t2 : Dt) (k : Int), e = .returned (.tuple #[.agg (t2.d.cells t2.ts.length).toArray, .int .i64 k]) ∧ (t2.rd w' ∧ t2.at_ (w.heap.size ≤ ·) ∧ (t2.tr, k) = fitS (ts.map Dt.tr) u.tr) ∧ Below w.heap.size w w' := by
 have hbl := vr ts
 have M : Mg w w ([]) := Mg.start w
 refine qr (l := [(0, .slice so ts.length ca), (1, .agg (u.d.cells u.ts.length).toArray)]) Tryz.func60 rfl Tryz.ntmps60 rfl rfl ?_
 intro Q hret hnorm hP a A
 refine wsk fun K1 hK1 => wrl (zg (vs := (u.d.cells u.ts.length)) (t := 53) A M rfl rfl rfl pg (zd rfl rfl) (by decide) ?_)
 intro g2 w3 M a A
 refine zg (vs := (qs.d.cells qs.ts.length)) (t := 53) A M rfl rfl rfl pg (qk (z := .agg (qs.d.cells qs.ts.length).toArray) (by kernel_rfl) rfl) (by decide) ?_
 intro g4 w5 M a A
 refine sda A λa A↦?_
 refine qa (hK1 _ _ (wsk fun K6 hK6 => wsk fun K7 hK7 => wrl (sdm A λa A↦?_)))
 refine sdo A (ze Tryz.underlying39 rfl) λa A↦?_
 rcases tf (decide (20000 < ((ts.length : Nat) : Int))) with hb8 | hb8
 ·
  have hb8' := of_decide_eq_true hb8
  refine sdc A xy hb8 λa A↦?_
  refine qa (hK7 _ _ (wp_cond_true (A.ev rfl) ?_))
  refine wsk fun K9 hK9 => wrl (sdo (v := .agg (qs.d.cells qs.ts.length).toArray) A (qn rfl (fun w => by kernel_rfl)) λa A↦?_)
  refine qw (us := (qs.d.cells qs.ts.length)) (L' := (.obj g4 (.cells (qs.d.cells qs.ts.length).toArray 53) :: .obj g2 (.cells (u.d.cells u.ts.length).toArray 53) :: [])) A M rfl rfl (qj rfl rfl rfl (by kernel_rfl) M 0 rfl rfl rfl) 0 rfl rfl rfl ?_
  intro w10 M
  refine sda A λa A↦?_
  refine qa (hK9 _ _ (wp_ret (hret _ _ (en2 A rfl (zr M LiF_isS_53 rfl 0 rfl (cs := [.int .i64 0, .int .i64 0, .bool false, .slice none 0 0, .slice none 0 0, .bool false, .slice none 0 0, .slice none 0 0, .string (⟨#[]⟩), .slice none 0 0, .slice none 0 0]) rfl rfl) (qe rfl) ?_))))
  exact ⟨qs, 4, rfl, ⟨qli _, qlj _, by rw [fitS_long (by rw [List.length_map]; omega), qlh]⟩, M.bel⟩
 ·
  have hb8' := of_decide_eq_false hb8
  refine sdc A xy hb8 λa A↦?_
  refine qa (hK7 _ _ (wp_cond_false (A.ev rfl) ?_))
  refine wp_skip (hK6 _ _ (wsk fun K11 hK11 => wrl (sdm A λa A↦?_)))
  refine sdo A (za M LiF_isS_53 rfl 1 rfl (cs := (u.d.cells u.ts.length)) rfl rfl) λa A↦?_
  have hlt12 := (Ck.lt (M.has 0 rfl) g4 rfl).2
  have hlt13 := (Ck.lt (M.has 1 rfl) g2 rfl).2
  have hzt3 := M.bel.size
  refine sct A (ef rfl rfl) (linked_any (hR.below M.bel) (fun t ht => Dt.keep M.bel _ (hD t ht)) (Dt.keep M.bel _ hu) (by omega)) ?_
  rintro _ w15 ⟨t3, rfl, ⟨hrt3, htt3⟩, hb14⟩
  replace M := M.call hb14
  refine ⟨_, rfl, ?_⟩
  intro a A
  refine qii (vs := (qs.d.cells qs.ts.length)) (t := 53) A M rfl rfl rfl pg (qk (z := .agg (qs.d.cells qs.ts.length).toArray) (by kernel_rfl) rfl) (by decide) ?_
  intro g16 w17 M hg18 hb19 a A
  have hnt3g16 := Dt.at_mono (q := (· ≠ g16)) (fun b hb => by intro e; omega) _ (Dt.at_lt _ hrt3)
  replace hrt3 := Dt.keep hb19 _ hrt3
  refine xw (us := (t3.d.cells t3.ts.length)) (L' := (.obj g16 (.cells (t3.d.cells t3.ts.length).toArray 53) :: .obj g4 (.cells (qs.d.cells qs.ts.length).toArray 53) :: .obj g2 (.cells (u.d.cells u.ts.length).toArray 53) :: [])) A M rfl rfl (qj rfl rfl rfl (by kernel_rfl) M 0 rfl rfl rfl) 0 rfl rfl rfl ?_
  intro w20 M hK21
  replace hrt3 := Dt.kept hK21 _ hrt3 hnt3g16
  refine qa (hK11 _ _ (wsk fun K22 hK22 => wsk fun K23 hK23 => wrl (sdo A (za M LiF_isS_53 rfl 0 rfl (cs := (t3.d.cells t3.ts.length)) rfl rfl) λa A↦?_)))
  rcases tf (qz qh t3.tr) with hb24 | hb24
  ·
   refine sct A (ef rfl rfl) ((hb24 ▸ sound_any (t := t3) hrt3 (hT.below M.bel))) ?_
   rintro _ w26 ⟨rfl, hb25⟩
   replace hrt3 := Dt.keep hb25 _ hrt3
   replace M := M.call hb25
   refine ⟨_, rfl, ?_⟩
   intro a A
   refine sdo (v := .bool false) A (zb rfl zn) λa A↦?_
   refine qa (hK23 _ _ (wp_cond_false (A.ev rfl) ?_))
   refine wp_skip (hK22 _ _ (wsk fun K27 hK27 => wrl (sdo A (za M LiF_isS_53 rfl 0 rfl (cs := (t3.d.cells t3.ts.length)) rfl rfl) λa A↦?_)))
   have hlt28 := (Ck.lt (M.has 0 rfl) g16 rfl).2
   have hlt29 := (Ck.lt (M.has 1 rfl) g4 rfl).2
   have hlt30 := (Ck.lt (M.has 2 rfl) g2 rfl).2
   have hzt2 := M.bel.size
   refine sct A (ef rfl rfl) (xr t3 hrt3 (by rw [htt3, uy, List.length_map]; omega)) ?_
   rintro _ w32 ⟨t2, rfl, ⟨hrt2, hat2, htt2⟩, hb31⟩
   replace M := M.call hb31
   refine ⟨_, rfl, ?_⟩
   intro a A
   refine xw (us := (t2.d.cells t2.ts.length)) (L' := (.obj g16 (.cells (t3.d.cells t3.ts.length).toArray 53) :: .obj g4 (.cells (t2.d.cells t2.ts.length).toArray 53) :: .obj g2 (.cells (u.d.cells u.ts.length).toArray 53) :: [])) A M rfl rfl (qj rfl rfl rfl (by kernel_rfl) M 1 rfl rfl rfl) 1 rfl rfl rfl ?_
   intro w33 M hK34
   replace hrt2 := Dt.kept hK34 _ hrt2 (Dt.at_mono (fun b hb => by rintro rfl; omega) _ hat2)
   refine sda A λa A↦?_
   refine qa (hK27 _ _ (wp_ret (hret _ _ (en2 A rfl (zr M LiF_isS_53 rfl 1 rfl (cs := [.int .i64 t2.d.k, .int .i64 t2.d.n, .bool t2.d.y.q.b1, .slice t2.d.y.o1 t2.d.y.q.t1.length t2.d.y.c1, .slice t2.d.y.o2 t2.d.y.q.q1.length t2.d.y.c2, .bool t2.d.y.q.b2, .slice t2.d.y.o3 t2.d.y.q.t2.length t2.d.y.c3, .slice t2.d.y.o4 t2.d.y.q.q2.length t2.d.y.c4, .string t2.d.s, .slice t2.d.ro t2.d.rl.length t2.d.rc, .slice t2.d.lo t2.ts.length t2.d.lc]) rfl rfl) (qe rfl) ?_))))
   exact ⟨t2, 0, rfl, ⟨hrt2, Dt.at_mono (fun b hb => Nat.le_trans hzt2 hb) _ hat2, by rw [htt3] at hb24; rw [fitS_yes hb24, htt2, htt3]⟩, M.bel⟩
  ·
   refine sct A (ef rfl rfl) ((hb24 ▸ sound_any (t := t3) hrt3 (hT.below M.bel))) ?_
   rintro _ w36 ⟨rfl, hb35⟩
   replace hrt3 := Dt.keep hb35 _ hrt3
   replace M := M.call hb35
   refine ⟨_, rfl, ?_⟩
   intro a A
   refine sdo (v := .bool true) A (zb rfl zn) λa A↦?_
   refine qa (hK23 _ _ (wp_cond_true (A.ev rfl) ?_))
   refine wsk fun K37 hK37 => wrl (sdo (v := .agg (qs.d.cells qs.ts.length).toArray) A (qn rfl (fun w => by kernel_rfl)) λa A↦?_)
   refine xw (us := (qs.d.cells qs.ts.length)) (L' := (.obj g16 (.cells (t3.d.cells t3.ts.length).toArray 53) :: .obj g4 (.cells (qs.d.cells qs.ts.length).toArray 53) :: .obj g2 (.cells (u.d.cells u.ts.length).toArray 53) :: [])) A M rfl rfl (qj rfl rfl rfl (by kernel_rfl) M 1 rfl rfl rfl) 1 rfl rfl rfl ?_
   intro w38 M hK39
   refine sda A λa A↦?_
   refine qa (hK37 _ _ (wp_ret (hret _ _ (en2 A rfl (zr M LiF_isS_53 rfl 1 rfl (cs := [.int .i64 0, .int .i64 0, .bool false, .slice none 0 0, .slice none 0 0, .bool false, .slice none 0 0, .slice none 0 0, .string (⟨#[]⟩), .slice none 0 0, .slice none 0 0]) rfl rfl) (qe rfl) ?_))))
   exact ⟨qs, 4, rfl, ⟨qli _, qlj _, by rw [htt3] at hb24; rw [fitS_no hb24, qlh]⟩, M.bel⟩
theorem LiG_isS_53 : IsS Tryz.prog 53 11 := ⟨⟨_, Tryz.underlying53⟩, by kernel_rfl⟩
theorem none_of {α : Type} {x : Option α} (h : x.isSome = false) : x = none := Option.isNone_iff_eq_none.1 (Option.isSome_eq_false_iff.1 h)
theorem of_any {w : World} {so : Option Addr} {ca : Nat} {ts : List Dt} (hR : Rt w so ts) (hD : ∀ t ∈ ts, t.rd w) (hb : Tr.bulks (ts.map Dt.tr) ≤ 300000000) (hT : Tabs8 w) : Calls Tryz.prog 36 #[.slice so ts.length ca] w fun e w' => ∃ t2 : Dt, e = .returned (.agg (t2.d.cells t2.ts.length).toArray) ∧ (t2.rd w' ∧ t2.at_ (w.heap.size ≤ ·) ∧ t2.tr = ofS (ts.map Dt.tr)) ∧ Below w.heap.size w w' := by
 have hnb : nilD.tr.bulk = 1 := by rw [nilD_tr]; rfl
 have M : Mg w w ([]) := Mg.start w
 refine qr (l := [(0, .slice so ts.length ca)]) Tryz.func36 rfl Tryz.ntmps36 rfl rfl ?_
 intro Q hret hnorm hP a A
 refine wsk fun K1 hK1 => wrl (zg (vs := (qs.d.cells qs.ts.length)) (t := 53) A M rfl rfl rfl pg (qk (z := .agg (qs.d.cells qs.ts.length).toArray) (by kernel_rfl) rfl) (by decide) ?_)
 intro g2 w3 M a A
 refine qa (hK1 _ _ (wsk fun K4 hK4 => wrl (sdm A λa A↦?_)))
 refine gcl A M (ef rfl rfl) (end_any) fun w6 hb5 M a A => ?_
 have hlt7 := (Ck.lt (M.has 0 rfl) g2 rfl).2
 have hzt2 := M.bel.size
 refine sct A (ef rfl rfl) (fitting_any (u := nilD) (hR.below M.bel) (fun t ht => Dt.keep M.bel _ (hD t ht)) (nilD_rd _) (by omega) (hT.below M.bel)) ?_
 rintro _ w9 ⟨t2, k2, rfl, ⟨hrt2, hat2, htt2⟩, hb8⟩
 replace M := M.call hb8
 refine ⟨_, rfl, ?_⟩
 intro a A
 refine sdm A λa A↦?_
 iterate 2 refine sdo A (ql (vs := [.agg (t2.d.cells t2.ts.length).toArray, .int .i64 k2]) rfl rfl) λa A↦?_
 refine qii (vs := (qs.d.cells qs.ts.length)) (t := 53) A M rfl rfl rfl pg (qk (z := .agg (qs.d.cells qs.ts.length).toArray) (by kernel_rfl) rfl) (by decide) ?_
 intro g10 w11 M hg12 hb13 a A
 have hnt2g10 := Dt.at_mono (q := (· ≠ g10)) (fun b hb => by intro e; omega) _ (Dt.at_lt _ hrt2)
 replace hrt2 := Dt.keep hb13 _ hrt2
 refine xw (us := (t2.d.cells t2.ts.length)) (L' := (.obj g10 (.cells (t2.d.cells t2.ts.length).toArray 53) :: .obj g2 (.cells (qs.d.cells qs.ts.length).toArray 53) :: [])) A M rfl rfl (qj rfl rfl rfl (by kernel_rfl) M 0 rfl rfl rfl) 0 rfl rfl rfl ?_
 intro w14 M hK15
 replace hrt2 := Dt.kept hK15 _ hrt2 hnt2g10
 refine sda A λa A↦?_
 refine qa (hK4 _ _ (wsk fun K16 hK16 => wrl (sdo A (za M LiG_isS_53 rfl 0 rfl (cs := (t2.d.cells t2.ts.length)) rfl rfl) λa A↦?_)))
 refine xw (us := (t2.d.cells t2.ts.length)) (L' := (.obj g10 (.cells (t2.d.cells t2.ts.length).toArray 53) :: .obj g2 (.cells (t2.d.cells t2.ts.length).toArray 53) :: [])) A M rfl rfl (qj rfl rfl rfl (by kernel_rfl) M 1 rfl rfl rfl) 1 rfl rfl rfl ?_
 intro w17 M hK18
 replace hrt2 := Dt.kept hK18 _ hrt2 (Dt.at_mono (fun b hb => by rintro rfl; omega) _ hat2)
 refine qa (hK16 _ _ (wp_ret (hret _ _ (en1 A rfl (zr M LiG_isS_53 rfl 1 rfl (cs := [.int .i64 t2.d.k, .int .i64 t2.d.n, .bool t2.d.y.q.b1, .slice t2.d.y.o1 t2.d.y.q.t1.length t2.d.y.c1, .slice t2.d.y.o2 t2.d.y.q.q1.length t2.d.y.c2, .bool t2.d.y.q.b2, .slice t2.d.y.o3 t2.d.y.q.t2.length t2.d.y.c3, .slice t2.d.y.o4 t2.d.y.q.q2.length t2.d.y.c4, .string t2.d.s, .slice t2.d.ro t2.d.rl.length t2.d.rc, .slice t2.d.lo t2.ts.length t2.d.lc]) rfl rfl) ?_))))
 exact ⟨t2, rfl, ⟨hrt2, Dt.at_mono (fun b hb => Nat.le_trans hzt2 hb) _ hat2, by unfold ofS; rw [← nilD_tr, ← htt2]⟩, M.bel⟩
theorem KcE_is1_3 : Is1 Tryz.prog 3 := ⟨⟨_, Tryz.underlying3, rfl⟩, by kernel_rfl⟩
theorem KcE_fld_41_0 : FieldAt Tryz.prog 41 0 0 := ⟨_, _, Tryz.underlying41, rfl, rfl, by kernel_rfl⟩
theorem KcE_fld_53_0 : FieldAt Tryz.prog 53 0 0 := ⟨_, _, Tryz.underlying53, rfl, rfl, by kernel_rfl⟩
theorem KcE_fld_53_1 : FieldAt Tryz.prog 53 1 1 := ⟨_, _, Tryz.underlying53, rfl, rfl, by kernel_rfl⟩
theorem KcE_isS_41 : IsS Tryz.prog 41 2 := ⟨⟨_, Tryz.underlying41⟩, by kernel_rfl⟩
theorem KcE_isS_53 : IsS Tryz.prog 53 11 := ⟨⟨_, Tryz.underlying53⟩, by kernel_rfl⟩
theorem xa {w : World} {k : Int} {t : Dt} : Calls Tryz.prog 39 #[.int .i64 k, .agg (t.d.cells t.ts.length).toArray] w fun e w' => ∃ g, e = .returned (.agg (Sp.mk k (some ⟨g, 0, none⟩) 1 [t]).c.toArray) ∧ Mg w w' [.row 53 11 (.slice (some ⟨g, 0, none⟩) 1 1) 1 (cellsOf [t])] := by
 have M : Mg w w ([]) := Mg.start w
 refine qr (l := [(0, .int .i64 k), (1, .agg (t.d.cells t.ts.length).toArray)]) Tryz.func39 rfl Tryz.ntmps39 rfl rfl ?_
 intro Q hret hnorm hP a A
 refine wsk fun K1 hK1 => wrl (zg (vs := (t.d.cells t.ts.length)) (t := 53) A M rfl rfl rfl pg (zd rfl rfl) (by decide) ?_)
 intro g2 w3 M a A
 refine zg (vs := zk.c) (t := 41) A M rfl rfl rfl pg (qk (z := .agg zk.c.toArray) (by kernel_rfl) rfl) (by decide) ?_
 intro g4 w5 M a A
 refine qa (hK1 _ _ (wsk fun K6 hK6 => wrl (sdm A λa A↦?_)))
 refine sdo A (za M KcE_isS_53 rfl 1 rfl (cs := (t.d.cells t.ts.length)) rfl rfl) λa A↦?_
 refine yh (e := 53) (sz := 11) (m := 1) (vs := cellsOf [t]) A M rfl rfl rfl (zv rfl (by kernel_rfl)) rfl rfl (.inl (by decide)) ?_
 intro g7 w8 M a A
 refine sdo (v := .agg #[.int .i64 k, .slice (some ⟨g7, 0, none⟩) 1 1]) A (qn rfl (fun w => by kernel_rfl)) λa A↦?_
 refine qw (us := [.int .i64 k, .slice (some ⟨g7, 0, none⟩) 1 1]) (L' := (.row 53 11 (.slice (some ⟨g7, 0, none⟩) 1 1) 1 (cellsOf [t]) :: .obj g4 (.cells #[.int .i64 k, .slice (some ⟨g7, 0, none⟩) 1 1] 41) :: .obj g2 (.cells (t.d.cells t.ts.length).toArray 53) :: [])) A M rfl rfl (qj rfl rfl rfl (by kernel_rfl) M 1 rfl rfl rfl) 1 rfl rfl rfl ?_
 intro w9 M
 refine qa (hK6 _ _ (wp_ret (hret _ _ (en1 A rfl (zr M KcE_isS_41 rfl 1 rfl (cs := [.int .i64 k, .slice (some ⟨g7, 0, none⟩) 1 1]) rfl rfl) ?_))))
 replace M : Mg w w9 (.row 53 11 (.slice (some ⟨g7, 0, none⟩) 1 1) 1 (cellsOf [t]) :: []) := M.sub (cc (cn (cn (.refl _))))
 exact ⟨g7, rfl, M⟩
theorem isF_at (t : Dt) : isF t.tr = (decide (t.d.k = 2) && decide (t.d.n = 0)) := by cases t; rfl
theorem qbd {w : World} {t : Dt} : Calls Tryz.prog 38 #[.agg (t.d.cells t.ts.length).toArray] w fun e w' => e = .returned (.bool (isF t.tr)) ∧ Below w.heap.size w w' := by
 have M : Mg w w ([]) := Mg.start w
 refine qr (l := [(0, .agg (t.d.cells t.ts.length).toArray)]) Tryz.func38 rfl Tryz.ntmps38 rfl rfl ?_
 intro Q hret hnorm hP a A
 refine wsk fun K1 hK1 => wrl (zg (vs := (t.d.cells t.ts.length)) (t := 53) A M rfl rfl rfl pg (zd rfl rfl) (by decide) ?_)
 intro g2 w3 M a A
 refine sda A λa A↦?_
 refine qa (hK1 _ _ (wsk fun K4 hK4 => wrl (sdo (v := .pointer (some ⟨g2, 0, none⟩)) A (qb KcE_fld_53_0 rfl rfl) λa A↦?_)))
 refine sdo A (qi M KcE_is1_3 rfl 0 rfl rfl) λa A↦?_
 rcases tf ((t.d.k == 2)) with hb5 | hb5
 ·
  have hb5' := eq_of_beq hb5
  refine sdc A qx hb5 λa A↦?_
  refine sdm A λa A↦?_
  refine sdo (v := .pointer (some ⟨g2, 1, none⟩)) A (qb KcE_fld_53_1 rfl rfl) λa A↦?_
  refine sdo A (qi M KcE_is1_3 rfl 0 rfl rfl) λa A↦?_
  rcases tf ((t.d.n == 0)) with hb6 | hb6
  ·
   have hb6' := eq_of_beq hb6
   refine sdc A qx hb6 λa A↦?_
   refine sdk (v := .bool true) A λa A↦?_
   refine sda A λa A↦?_
   refine qa (hK4 _ _ (wp_ret (hret _ _ (en1 A rfl (qe rfl) ?_))))
   exact ⟨by rw [isF_at, decide_eq_true hb5', decide_eq_true hb6']; rfl, M.bel⟩
  ·
   have hb6' := ne_of_beq_false hb6
   refine sdc A qx hb6 λa A↦?_
   refine sdk (v := .bool false) A λa A↦?_
   refine sda A λa A↦?_
   refine qa (hK4 _ _ (wp_ret (hret _ _ (en1 A rfl (qe rfl) ?_))))
   exact ⟨by rw [isF_at, decide_eq_true hb5', decide_eq_false hb6']; rfl, M.bel⟩
 ·
  have hb5' := ne_of_beq_false hb5
  refine sdc A qx hb5 λa A↦?_
  refine sdm A λa A↦?_
  iterate 3 refine qt A rfl rfl rfl λa A↦?_
  refine sdk (v := .bool false) A λa A↦?_
  refine sda A λa A↦?_
  refine qa (hK4 _ _ (wp_ret (hret _ _ (en1 A rfl (qe rfl) ?_))))
  exact ⟨by rw [isF_at, decide_eq_false hb5']; rfl, M.bel⟩
set_option maxHeartbeats 1000000 in
theorem error_any {w : World} {da dm : Dt} (ha : da.rd w) (hm : dm.rd w) {so2 : Option Addr} {ca2 : Nat} {is : List Dt} (hRi : Rt w so2 is) (hDi : ∀ t ∈ is, t.rd w) (hba : da.tr.bulk ≤ 100000000) (hbm : dm.tr.bulk ≤ 100000000) (hbi : Tr.bulks (is.map Dt.tr) ≤ 300000000) (hT : Tabs8 w) {v : Bool} : Calls Tryz.prog 22 #[.agg (da.d.cells da.ts.length).toArray, .agg (dm.d.cells dm.ts.length).toArray, .slice so2 is.length ca2, .bool v] w fun e w' => ∃ (so' : Option Addr) (ca' : Nat) (cs : List Sp) (ev : Int), e = .returned (.tuple #[.slice so' cs.length ca', .int .i64 ev]) ∧ ((cs.map Sp.k, ev) = erS da.tr dm.tr (is.map Dt.tr) v ∧ PR w' so' cs) ∧ Below w.heap.size w w' := by
 have M : Mg w w ([]) := Mg.start w
 refine qr (l := [(0, .agg (da.d.cells da.ts.length).toArray), (1, .agg (dm.d.cells dm.ts.length).toArray), (2, .slice so2 is.length ca2), (3, .bool v)]) Tryz.func22 rfl Tryz.ntmps22 rfl rfl ?_
 intro Q hret hnorm hP a A
 refine wsk fun K1 hK1 => wrl (zg (vs := (da.d.cells da.ts.length)) (t := 53) A M rfl rfl rfl pg (zd rfl rfl) (by decide) ?_)
 intro g2 w3 M a A
 refine zg (vs := (dm.d.cells dm.ts.length)) (t := 53) A M rfl rfl rfl pg (zd rfl rfl) (by decide) ?_
 intro g4 w5 M a A
 iterate 2 refine sda A λa A↦?_
 refine qa (hK1 _ _ (wsk fun K6 hK6 => wrl (sdm A λa A↦?_)))
 refine sct A (ef rfl rfl) (of_any (hRi.below M.bel) (fun t ht => Dt.keep M.bel _ (hDi t ht)) hbi (hT.below M.bel)) ?_
 rintro _ w8 ⟨dl, rfl, ⟨hrl, hal, htl⟩, hb7⟩
 have hLdl := kb hrl hal
 replace M : Mg w w8 (.obj g4 (.cells (dm.d.cells dm.ts.length).toArray 53) :: .obj g2 (.cells (da.d.cells da.ts.length).toArray 53) :: (made w5 w8 ++ [])) := M.freezeAt 2 (qf (by simp) (qf (by simp) (qp qy))) hb7
 refine ⟨_, rfl, ?_⟩
 intro a A
 refine zg (vs := (qs.d.cells qs.ts.length)) (t := 53) A M rfl rfl rfl pg (qk (z := .agg (qs.d.cells qs.ts.length).toArray) (by kernel_rfl) rfl) (by decide) ?_
 intro g9 w10 M a A
 refine qw (us := (dl.d.cells dl.ts.length)) (L' := (.obj g9 (.cells (dl.d.cells dl.ts.length).toArray 53) :: .obj g4 (.cells (dm.d.cells dm.ts.length).toArray 53) :: .obj g2 (.cells (da.d.cells da.ts.length).toArray 53) :: (made w5 w8 ++ []))) A M rfl rfl (qj rfl rfl rfl (by kernel_rfl) M 0 rfl rfl rfl) 0 rfl rfl rfl ?_
 intro w11 M
 refine qa (hK6 _ _ (wsk fun K12 hK12 => wsk fun K13 hK13 => wrl (sdo A (za M KcE_isS_53 rfl 2 rfl (cs := (da.d.cells da.ts.length)) rfl rfl) λa A↦?_)))
 rcases tf (qz qh da.tr) with hb14 | hb14
 ·
  refine gcl A M (ef rfl rfl) ((hb14 ▸ jm (t := da) (Dt.keep M.bel _ ha) (hT.below M.bel))) fun w16 hb15 M a A => ?_
  refine sdm A λa A↦?_
  refine sdo A (za M KcE_isS_53 rfl 1 rfl (cs := (dm.d.cells dm.ts.length)) rfl rfl) λa A↦?_
  rcases tf (qz qh dm.tr) with hb17 | hb17
  ·
   refine gcl A M (ef rfl rfl) ((hb17 ▸ jm (t := dm) (Dt.keep M.bel _ hm) (hT.below M.bel))) fun w19 hb18 M a A => ?_
   refine sdk (v := .bool false) A λa A↦?_
   refine sdm A λa A↦?_
   refine sdo A (za M KcE_isS_53 rfl 0 rfl (cs := (dl.d.cells dl.ts.length)) rfl rfl) λa A↦?_
   rcases tf (qz qh dl.tr) with hb20 | hb20
   ·
    refine gcl A M (ef rfl rfl) ((hb20 ▸ jm (t := dl) (hLdl _ _ ((M.dropn 3).sub (List.sublist_append_left _ _))) (hT.below M.bel))) fun w22 hb21 M a A => ?_
    refine sdk (v := .bool false) A λa A↦?_
    refine qa (hK13 _ _ (wp_cond_false (A.ev rfl) ?_))
    refine wp_skip (hK12 _ _ (wsk fun K23 hK23 => wrl (sdo (v := .agg #[.int .i64 4, .slice none 0 0]) A (qn rfl (fun w => by kernel_rfl)) λa A↦?_)))
    refine yh (e := 41) (sz := 2) (m := 1) (vs := zh Sp.c [(Sp.mk 4 none 0 [])]) A M rfl rfl rfl (zv rfl (by kernel_rfl)) rfl rfl (.inl (by decide)) ?_
    intro g24 w25 M a A
    refine sda A λa A↦?_
    refine qa (hK23 _ _ (wsk fun K26 hK26 => ?_))
    have hJ27 : ∀ a w1, (Sl a 47 [(0, .agg (da.d.cells da.ts.length).toArray), (1, .agg (dm.d.cells dm.ts.length).toArray), (2, .slice so2 is.length ca2), (4, .pointer (some ⟨g2, 0, none⟩)), (5, .pointer (some ⟨g4, 0, none⟩)), (8, .slice none 0 0), (9, .int .i64 0), (10, .pointer (some ⟨g9, 0, none⟩)), (11, .slice (some ⟨g24, 0, none⟩) 1 1), (12, .slice so2 is.length ca2), (13, .agg (dl.d.cells dl.ts.length).toArray), (14, .agg (da.d.cells da.ts.length).toArray), (15, .bool false), (16, .bool false), (17, .agg (dm.d.cells dm.ts.length).toArray), (18, .bool false), (19, .bool false), (20, .bool false), (21, .agg (dl.d.cells dl.ts.length).toArray), (22, .bool false), (23, .bool false), (24, .agg #[.int .i64 4, .slice none 0 0]), (25, .slice (some ⟨g24, 0, none⟩) 1 1)] ∧ Mg w w1 (.row 41 2 (.slice (some ⟨g24, 0, none⟩) 1 1) 1 (zh Sp.c [(Sp.mk (if v = true then 6 else 4) none 0 [])]) :: .obj g9 (.cells (dl.d.cells dl.ts.length).toArray 53) :: .obj g4 (.cells (dm.d.cells dm.ts.length).toArray 53) :: .obj g2 (.cells (da.d.cells da.ts.length).toArray 53) :: (made w5 w8 ++ []))) → K26 a w1 := by
     clear A M
     rintro a w28 ⟨A, M⟩
     refine hK26 _ _ (wsk fun K30 hK30 => wsk fun K31 hK31 => wrl (sdo A (za M KcE_isS_53 rfl 3 rfl (cs := (da.d.cells da.ts.length)) rfl rfl) λa A↦?_))
     rcases tf (isF da.tr) with hb32 | hb32
     ·
      refine gcl A M (ef rfl rfl) ((hb32 ▸ qbd)) fun w34 hb33 M a A => ?_
      refine sdo (v := .bool false) A (zb rfl zn) λa A↦?_
      refine qa (hK31 _ _ (wp_cond_false (A.ev rfl) ?_))
      refine wp_skip (hK30 _ _ (wsk fun K35 hK35 => xh (S := fun w1 => Mg w w1 (.obj g9 (.cells (dl.d.cells dl.ts.length).toArray 53) :: .obj g4 (.cells (dm.d.cells dm.ts.length).toArray 53) :: [])) (by kernel_rfl) ?_))
      replace M := M.drew
      refine qm A 0 rfl rfl rfl rfl hP (M.sub (cn (cc (cc (cn (List.nil_sublist _)))))) (fun w1 M => zj rfl) λa A↦?_
      refine qm A 1 rfl rfl rfl rfl hP (M.sub (cn (cc (cc (cn (List.nil_sublist _)))))) (fun w1 M => za M KcE_isS_53 rfl 1 rfl (cs := (dm.d.cells dm.ts.length)) rfl rfl) λa A↦?_
      refine qm A 4 rfl rfl rfl rfl hP (M.sub (cn (cc (cc (cn (List.nil_sublist _)))))) (fun w1 M => za M KcE_isS_53 rfl 0 rfl (cs := (dl.d.cells dl.ts.length)) rfl rfl) λa A↦?_
      refine zy (by kernel_rfl) (jj A 2 rfl rfl rfl rfl (zf rfl rfl (fun w => by kernel_rfl)) (xr dm (Dt.keep M.bel _ hm) (by omega)) ?_)
      rintro _ w37 ⟨m2, rfl, ⟨hrm2, ham2, htm2⟩, hb36⟩
      have hLm2 := kb hrm2 ham2
      replace M : Mg w w37 (.row 41 2 (.slice (some ⟨g24, 0, none⟩) 1 1) 1 (zh Sp.c [(Sp.mk (if v = true then 6 else 4) none 0 [])]) :: .obj g9 (.cells (dl.d.cells dl.ts.length).toArray 53) :: .obj g4 (.cells (dm.d.cells dm.ts.length).toArray 53) :: .obj g2 (.cells (da.d.cells da.ts.length).toArray 53) :: (made w34.drew w37 ++ (made w5 w8 ++ []))) := M.freezeAt 4 (qf (by simp) (qf (by simp) (qf (by simp) (qf (by simp) (zt zw (qp qy)))))) hb36
      refine ⟨_, rfl, (M.sub (cn (cc (cc (cn (List.nil_sublist _)))))), ?_⟩
      intro a A
      refine zy (by kernel_rfl) (jj A 3 rfl rfl rfl rfl (zf rfl rfl (fun w => by kernel_rfl)) (xa) ?_)
      rintro _ w39 ⟨gf1, rfl, hM38⟩
      replace M : Mg w w39 (.row 53 11 (.slice (some ⟨gf1, 0, none⟩) 1 1) 1 (cellsOf [m2]) :: .row 41 2 (.slice (some ⟨g24, 0, none⟩) 1 1) 1 (zh Sp.c [(Sp.mk (if v = true then 6 else 4) none 0 [])]) :: .obj g9 (.cells (dl.d.cells dl.ts.length).toArray 53) :: .obj g4 (.cells (dm.d.cells dm.ts.length).toArray 53) :: .obj g2 (.cells (da.d.cells da.ts.length).toArray 53) :: (made w34.drew w37 ++ (made w5 w8 ++ []))) := (M.both hM38 (qf (by simp) (qf (by simp) (qf (by simp) (qf (by simp) (zt zw (zt zw (qp qy))))))) (qf (by simp) (qp qy)))
      refine ⟨_, rfl, (M.sub (cn (cn (cc (cc (cn (List.nil_sublist _))))))), ?_⟩
      intro a A
      refine zy (by kernel_rfl) (jj A 5 rfl rfl rfl rfl (zf rfl rfl (fun w => by kernel_rfl)) (xa) ?_)
      rintro _ w41 ⟨gf7, rfl, hM40⟩
      replace M : Mg w w41 (.row 53 11 (.slice (some ⟨gf7, 0, none⟩) 1 1) 1 (cellsOf [dl]) :: .row 53 11 (.slice (some ⟨gf1, 0, none⟩) 1 1) 1 (cellsOf [m2]) :: .row 41 2 (.slice (some ⟨g24, 0, none⟩) 1 1) 1 (zh Sp.c [(Sp.mk (if v = true then 6 else 4) none 0 [])]) :: .obj g9 (.cells (dl.d.cells dl.ts.length).toArray 53) :: .obj g4 (.cells (dm.d.cells dm.ts.length).toArray 53) :: .obj g2 (.cells (da.d.cells da.ts.length).toArray 53) :: (made w34.drew w37 ++ (made w5 w8 ++ []))) := (M.both hM40 (qf (by simp) (qf (by simp) (qf (by simp) (qf (by simp) (qf (by simp) (zt zw (zt zw (qp qy)))))))) (qf (by simp) (qp qy)))
      refine ⟨_, rfl, (M.sub (cn (cn (cn (cc (cc (cn (List.nil_sublist _)))))))), ?_⟩
      intro a A
      refine zy (by kernel_rfl) (g_lit (e := 41) (sz := 2) (m := 2) (vs := zh Sp.c [(Sp.mk 1 (some ⟨gf1, 0, none⟩) 1 [m2]), (Sp.mk 7 (some ⟨gf7, 0, none⟩) 1 [dl])]) A M 6 rfl rfl rfl rfl (zv rfl (by kernel_rfl)) rfl rfl (.inl (by decide)) ?_)
      intro g42 w43 M
      refine ⟨(M.sub (cn (cn (cn (cn (cc (cc (cn (List.nil_sublist _))))))))), ?_⟩
      intro a A
      refine zy (by kernel_rfl) (qlb (e := 41) (sz := 2) (k := 3) (q := 1) (m := 2) (xs := zh Sp.c [(Sp.mk (if v = true then 6 else 4) none 0 [])]) (news := zh Sp.c [(Sp.mk 1 (some ⟨gf1, 0, none⟩) 1 [m2]), (Sp.mk 7 (some ⟨gf7, 0, none⟩) 1 [dl])]) (L' := fun v44 => (.row 41 2 (.slice (some ⟨g42, 0, none⟩) 2 2) 2 (zh Sp.c [(Sp.mk 1 (some ⟨gf1, 0, none⟩) 1 [m2]), (Sp.mk 7 (some ⟨gf7, 0, none⟩) 1 [dl])]) :: .row 53 11 (.slice (some ⟨gf7, 0, none⟩) 1 1) 1 (cellsOf [dl]) :: .row 53 11 (.slice (some ⟨gf1, 0, none⟩) 1 1) 1 (cellsOf [m2]) :: .row 41 2 (v44) (1 + 2) (zh Sp.c [(Sp.mk (if v = true then 6 else 4) none 0 [])] ++ zh Sp.c [(Sp.mk 1 (some ⟨gf1, 0, none⟩) 1 [m2]), (Sp.mk 7 (some ⟨gf7, 0, none⟩) 1 [dl])]) :: .obj g9 (.cells (dl.d.cells dl.ts.length).toArray 53) :: .obj g4 (.cells (dm.d.cells dm.ts.length).toArray 53) :: .obj g2 (.cells (da.d.cells da.ts.length).toArray 53) :: (made w34.drew w37 ++ (made w5 w8 ++ [])))) A 7 rfl rfl rfl rfl (vm (z := .agg #[.int .i64 0, .slice none 0 0]) (sz := 2) (by_ := 32) Tryz.underlying34 (by kernel_rfl) rfl rfl rfl M 3 rfl rfl rfl rfl (xq (M.has 0 rfl)) (qjc _) (by first | omega | (simp only [List.length_append, List.length_cons, List.length_nil]; omega))) (fun _ => rfl) ?_)
      intro v44 w45 M
      replace M : Mg w w45 (.row 41 2 (.slice (some ⟨g42, 0, none⟩) 2 2) 2 (zh Sp.c [(Sp.mk 1 (some ⟨gf1, 0, none⟩) 1 [m2]), (Sp.mk 7 (some ⟨gf7, 0, none⟩) 1 [dl])]) :: .row 53 11 (.slice (some ⟨gf7, 0, none⟩) 1 1) 1 (cellsOf [dl]) :: .row 53 11 (.slice (some ⟨gf1, 0, none⟩) 1 1) 1 (cellsOf [m2]) :: .row 41 2 (v44) (([(Sp.mk (if v = true then 6 else 4) none 0 [])] ++ [(Sp.mk 1 (some ⟨gf1, 0, none⟩) 1 [m2]), (Sp.mk 7 (some ⟨gf7, 0, none⟩) 1 [dl])]).length) (zh Sp.c ([(Sp.mk (if v = true then 6 else 4) none 0 [])] ++ [(Sp.mk 1 (some ⟨gf1, 0, none⟩) 1 [m2]), (Sp.mk 7 (some ⟨gf7, 0, none⟩) 1 [dl])])) :: .obj g9 (.cells (dl.d.cells dl.ts.length).toArray 53) :: .obj g4 (.cells (dm.d.cells dm.ts.length).toArray 53) :: .obj g2 (.cells (da.d.cells da.ts.length).toArray 53) :: (made w34.drew w37 ++ (made w5 w8 ++ []))) := by
       rw [xf, List.length_append]; exact M
      obtain ⟨so46, ca47, rfl⟩ := jr (M.has 3 rfl)
      refine ⟨(M.sub (cn (cn (cn (cn (cc (cc (cn (List.nil_sublist _))))))))), ?_⟩
      intro a A
      refine qm A 8 rfl rfl rfl rfl hP (M.sub (cn (cn (cn (cn (cc (cc (cn (List.nil_sublist _))))))))) (fun w1 M => zq rfl) λa A↦?_
      refine qm A 9 rfl rfl rfl rfl hP (M.sub (cn (cn (cn (cn (cc (cc (cn (List.nil_sublist _))))))))) (fun w1 M => zq rfl) λa A↦?_
      refine jo (by kernel_rfl) ?_
      refine hK35 _ _ (wp_ret (hret _ _ (en2 A rfl (qe rfl) (qe rfl) ?_)))
      have hps : ∀ p ∈ [(Sp.mk (if v = true then 6 else 4) none 0 []), (Sp.mk 1 (some ⟨gf1, 0, none⟩) 1 [m2]), (Sp.mk 7 (some ⟨gf7, 0, none⟩) 1 [dl])], SpR w45 p := by
       intro p hp
       simp only [List.mem_cons, List.not_mem_nil, or_false] at hp
       rcases hp with h9 | h9 | h9 <;> subst h9
       ·
        exact ⟨fun h => absurd rfl h, fun t h => by cases h⟩
       ·
        exact ⟨(vg (M.has 2 rfl)).1, fun t ht => by rw [List.mem_singleton.1 ht]; exact (hLm2 _ _ ((M.dropn 7).sub (List.sublist_append_left _ _)))⟩
       ·
        exact ⟨(vg (M.has 1 rfl)).1, fun t ht => by rw [List.mem_singleton.1 ht]; exact (hLdl _ _ ((M.dropn 7).sub ((List.sublist_append_left _ _).trans (List.sublist_append_right _ _))))⟩
      exact ⟨so46, ca47, [(Sp.mk (if v = true then 6 else 4) none 0 []), (Sp.mk 1 (some ⟨gf1, 0, none⟩) 1 [m2]), (Sp.mk 7 (some ⟨gf7, 0, none⟩) 1 [dl])], 0, rfl, ⟨by rw [erS_f hb14 hb17 (htl ▸ hb20) hb32, ← htl, ← htm2]; rcases v with _ | _ <;> rfl, ⟨xq (M.has 3 rfl), hps⟩⟩, M.bel⟩
     ·
      refine gcl A M (ef rfl rfl) ((hb32 ▸ qbd)) fun w49 hb48 M a A => ?_
      refine sdo (v := .bool true) A (zb rfl zn) λa A↦?_
      refine qa (hK31 _ _ (wp_cond_true (A.ev rfl) ?_))
      refine wrl (sdm A λa A↦?_)
      refine sdo A (za M KcE_isS_53 rfl 3 rfl (cs := (da.d.cells da.ts.length)) rfl rfl) λa A↦?_
      refine sct A (ef rfl rfl) (xr da (Dt.keep M.bel _ ha) (by omega)) ?_
      rintro _ w51 ⟨a2, rfl, ⟨hra2, haa2, hta2⟩, hb50⟩
      have hLa2 := kb hra2 haa2
      replace M : Mg w w51 (.row 41 2 (.slice (some ⟨g24, 0, none⟩) 1 1) 1 (zh Sp.c [(Sp.mk (if v = true then 6 else 4) none 0 [])]) :: .obj g9 (.cells (dl.d.cells dl.ts.length).toArray 53) :: .obj g4 (.cells (dm.d.cells dm.ts.length).toArray 53) :: .obj g2 (.cells (da.d.cells da.ts.length).toArray 53) :: (made w49 w51 ++ (made w5 w8 ++ []))) := M.freezeAt 4 (qf (by simp) (qf (by simp) (qf (by simp) (qf (by simp) (zt zw (qp qy)))))) hb50
      refine ⟨_, rfl, ?_⟩
      intro a A
      refine sct A (ef rfl rfl) (xa) ?_
      rintro _ w53 ⟨gf8, rfl, hM52⟩
      replace M : Mg w w53 (.row 53 11 (.slice (some ⟨gf8, 0, none⟩) 1 1) 1 (cellsOf [a2]) :: .row 41 2 (.slice (some ⟨g24, 0, none⟩) 1 1) 1 (zh Sp.c [(Sp.mk (if v = true then 6 else 4) none 0 [])]) :: .obj g9 (.cells (dl.d.cells dl.ts.length).toArray 53) :: .obj g4 (.cells (dm.d.cells dm.ts.length).toArray 53) :: .obj g2 (.cells (da.d.cells da.ts.length).toArray 53) :: (made w49 w51 ++ (made w5 w8 ++ []))) := (M.both hM52 (qf (by simp) (qf (by simp) (qf (by simp) (qf (by simp) (zt zw (zt zw (qp qy))))))) (qf (by simp) (qp qy)))
      refine ⟨_, rfl, ?_⟩
      intro a A
      refine yh (e := 41) (sz := 2) (m := 1) (vs := zh Sp.c [(Sp.mk 8 (some ⟨gf8, 0, none⟩) 1 [a2])]) A M rfl rfl rfl (zv rfl (by kernel_rfl)) rfl rfl (.inl (by decide)) ?_
      intro g54 w55 M a A
      refine xn (e := 41) (sz := 2) (k := 2) (q := 1) (m := 1) (xs := zh Sp.c [(Sp.mk (if v = true then 6 else 4) none 0 [])]) (news := zh Sp.c [(Sp.mk 8 (some ⟨gf8, 0, none⟩) 1 [a2])]) (L' := fun v56 => (.row 41 2 (.slice (some ⟨g54, 0, none⟩) 1 1) 1 (zh Sp.c [(Sp.mk 8 (some ⟨gf8, 0, none⟩) 1 [a2])]) :: .row 53 11 (.slice (some ⟨gf8, 0, none⟩) 1 1) 1 (cellsOf [a2]) :: .row 41 2 (v56) (1 + 1) (zh Sp.c [(Sp.mk (if v = true then 6 else 4) none 0 [])] ++ zh Sp.c [(Sp.mk 8 (some ⟨gf8, 0, none⟩) 1 [a2])]) :: .obj g9 (.cells (dl.d.cells dl.ts.length).toArray 53) :: .obj g4 (.cells (dm.d.cells dm.ts.length).toArray 53) :: .obj g2 (.cells (da.d.cells da.ts.length).toArray 53) :: (made w49 w51 ++ (made w5 w8 ++ [])))) A rfl rfl rfl (vm (z := .agg #[.int .i64 0, .slice none 0 0]) (sz := 2) (by_ := 32) Tryz.underlying34 (by kernel_rfl) rfl rfl rfl M 2 rfl rfl rfl rfl (xq (M.has 0 rfl)) (qjc [(Sp.mk 8 (some ⟨gf8, 0, none⟩) 1 [a2])]) (by first | omega | (simp only [List.length_nil]; omega))) (fun _ => rfl) ?_
      intro v56 w57 M a A
      replace M : Mg w w57 (.row 41 2 (.slice (some ⟨g54, 0, none⟩) 1 1) 1 (zh Sp.c [(Sp.mk 8 (some ⟨gf8, 0, none⟩) 1 [a2])]) :: .row 53 11 (.slice (some ⟨gf8, 0, none⟩) 1 1) 1 (cellsOf [a2]) :: .row 41 2 (v56) (([(Sp.mk (if v = true then 6 else 4) none 0 [])] ++ [(Sp.mk 8 (some ⟨gf8, 0, none⟩) 1 [a2])]).length) (zh Sp.c ([(Sp.mk (if v = true then 6 else 4) none 0 [])] ++ [(Sp.mk 8 (some ⟨gf8, 0, none⟩) 1 [a2])])) :: .obj g9 (.cells (dl.d.cells dl.ts.length).toArray 53) :: .obj g4 (.cells (dm.d.cells dm.ts.length).toArray 53) :: .obj g2 (.cells (da.d.cells da.ts.length).toArray 53) :: (made w49 w51 ++ (made w5 w8 ++ []))) := by
       rw [xf, List.length_append]; exact M
      obtain ⟨so58, ca59, rfl⟩ := jr (M.has 2 rfl)
      refine sda A λa A↦?_
      refine qa (hK30 _ _ (wsk fun K60 hK60 => xh (S := fun w1 => Mg w w1 (.obj g9 (.cells (dl.d.cells dl.ts.length).toArray 53) :: .obj g4 (.cells (dm.d.cells dm.ts.length).toArray 53) :: [])) (by kernel_rfl) ?_))
      replace M := M.drew
      refine qm A 0 rfl rfl rfl rfl hP (M.sub (cn (cn (cn (cc (cc (cn (List.nil_sublist _)))))))) (fun w1 M => zj rfl) λa A↦?_
      refine qm A 1 rfl rfl rfl rfl hP (M.sub (cn (cn (cn (cc (cc (cn (List.nil_sublist _)))))))) (fun w1 M => za M KcE_isS_53 rfl 1 rfl (cs := (dm.d.cells dm.ts.length)) rfl rfl) λa A↦?_
      refine qm A 4 rfl rfl rfl rfl hP (M.sub (cn (cn (cn (cc (cc (cn (List.nil_sublist _)))))))) (fun w1 M => za M KcE_isS_53 rfl 0 rfl (cs := (dl.d.cells dl.ts.length)) rfl rfl) λa A↦?_
      refine zy (by kernel_rfl) (jj A 2 rfl rfl rfl rfl (zf rfl rfl (fun w => by kernel_rfl)) (xr dm (Dt.keep M.bel _ hm) (by omega)) ?_)
      rintro _ w62 ⟨m2, rfl, ⟨hrm2, ham2, htm2⟩, hb61⟩
      have hLm2 := kb hrm2 ham2
      replace M : Mg w w62 (.row 41 2 (.slice (some ⟨g54, 0, none⟩) 1 1) 1 (zh Sp.c [(Sp.mk 8 (some ⟨gf8, 0, none⟩) 1 [a2])]) :: .row 53 11 (.slice (some ⟨gf8, 0, none⟩) 1 1) 1 (cellsOf [a2]) :: .row 41 2 (.slice so58 (([(Sp.mk (if v = true then 6 else 4) none 0 [])] ++ [(Sp.mk 8 (some ⟨gf8, 0, none⟩) 1 [a2])]).length) ca59) (([(Sp.mk (if v = true then 6 else 4) none 0 [])] ++ [(Sp.mk 8 (some ⟨gf8, 0, none⟩) 1 [a2])]).length) (zh Sp.c ([(Sp.mk (if v = true then 6 else 4) none 0 [])] ++ [(Sp.mk 8 (some ⟨gf8, 0, none⟩) 1 [a2])])) :: .obj g9 (.cells (dl.d.cells dl.ts.length).toArray 53) :: .obj g4 (.cells (dm.d.cells dm.ts.length).toArray 53) :: .obj g2 (.cells (da.d.cells da.ts.length).toArray 53) :: (made w57.drew w62 ++ (made w49 w51 ++ (made w5 w8 ++ [])))) := M.freezeAt 6 (qf (by simp) (qf (by simp) (qf (by simp) (qf (by simp) (qf (by simp) (qf (by simp) (zt zw (zt zw (qp qy))))))))) hb61
      refine ⟨_, rfl, (M.sub (cn (cn (cn (cc (cc (cn (List.nil_sublist _)))))))), ?_⟩
      intro a A
      refine zy (by kernel_rfl) (jj A 3 rfl rfl rfl rfl (zf rfl rfl (fun w => by kernel_rfl)) (xa) ?_)
      rintro _ w64 ⟨gf1, rfl, hM63⟩
      replace M : Mg w w64 (.row 53 11 (.slice (some ⟨gf1, 0, none⟩) 1 1) 1 (cellsOf [m2]) :: .row 41 2 (.slice (some ⟨g54, 0, none⟩) 1 1) 1 (zh Sp.c [(Sp.mk 8 (some ⟨gf8, 0, none⟩) 1 [a2])]) :: .row 53 11 (.slice (some ⟨gf8, 0, none⟩) 1 1) 1 (cellsOf [a2]) :: .row 41 2 (.slice so58 (([(Sp.mk (if v = true then 6 else 4) none 0 [])] ++ [(Sp.mk 8 (some ⟨gf8, 0, none⟩) 1 [a2])]).length) ca59) (([(Sp.mk (if v = true then 6 else 4) none 0 [])] ++ [(Sp.mk 8 (some ⟨gf8, 0, none⟩) 1 [a2])]).length) (zh Sp.c ([(Sp.mk (if v = true then 6 else 4) none 0 [])] ++ [(Sp.mk 8 (some ⟨gf8, 0, none⟩) 1 [a2])])) :: .obj g9 (.cells (dl.d.cells dl.ts.length).toArray 53) :: .obj g4 (.cells (dm.d.cells dm.ts.length).toArray 53) :: .obj g2 (.cells (da.d.cells da.ts.length).toArray 53) :: (made w57.drew w62 ++ (made w49 w51 ++ (made w5 w8 ++ [])))) := (M.both hM63 (qf (by simp) (qf (by simp) (qf (by simp) (qf (by simp) (qf (by simp) (qf (by simp) (zt zw (zt zw (zt zw (qp qy)))))))))) (qf (by simp) (qp qy)))
      refine ⟨_, rfl, (M.sub (cn (cn (cn (cn (cc (cc (cn (List.nil_sublist _))))))))), ?_⟩
      intro a A
      refine zy (by kernel_rfl) (jj A 5 rfl rfl rfl rfl (zf rfl rfl (fun w => by kernel_rfl)) (xa) ?_)
      rintro _ w66 ⟨gf7, rfl, hM65⟩
      replace M : Mg w w66 (.row 53 11 (.slice (some ⟨gf7, 0, none⟩) 1 1) 1 (cellsOf [dl]) :: .row 53 11 (.slice (some ⟨gf1, 0, none⟩) 1 1) 1 (cellsOf [m2]) :: .row 41 2 (.slice (some ⟨g54, 0, none⟩) 1 1) 1 (zh Sp.c [(Sp.mk 8 (some ⟨gf8, 0, none⟩) 1 [a2])]) :: .row 53 11 (.slice (some ⟨gf8, 0, none⟩) 1 1) 1 (cellsOf [a2]) :: .row 41 2 (.slice so58 (([(Sp.mk (if v = true then 6 else 4) none 0 [])] ++ [(Sp.mk 8 (some ⟨gf8, 0, none⟩) 1 [a2])]).length) ca59) (([(Sp.mk (if v = true then 6 else 4) none 0 [])] ++ [(Sp.mk 8 (some ⟨gf8, 0, none⟩) 1 [a2])]).length) (zh Sp.c ([(Sp.mk (if v = true then 6 else 4) none 0 [])] ++ [(Sp.mk 8 (some ⟨gf8, 0, none⟩) 1 [a2])])) :: .obj g9 (.cells (dl.d.cells dl.ts.length).toArray 53) :: .obj g4 (.cells (dm.d.cells dm.ts.length).toArray 53) :: .obj g2 (.cells (da.d.cells da.ts.length).toArray 53) :: (made w57.drew w62 ++ (made w49 w51 ++ (made w5 w8 ++ [])))) := (M.both hM65 (qf (by simp) (qf (by simp) (qf (by simp) (qf (by simp) (qf (by simp) (qf (by simp) (qf (by simp) (zt zw (zt zw (zt zw (qp qy))))))))))) (qf (by simp) (qp qy)))
      refine ⟨_, rfl, (M.sub (cn (cn (cn (cn (cn (cc (cc (cn (List.nil_sublist _)))))))))), ?_⟩
      intro a A
      refine zy (by kernel_rfl) (g_lit (e := 41) (sz := 2) (m := 2) (vs := zh Sp.c [(Sp.mk 1 (some ⟨gf1, 0, none⟩) 1 [m2]), (Sp.mk 7 (some ⟨gf7, 0, none⟩) 1 [dl])]) A M 6 rfl rfl rfl rfl (zv rfl (by kernel_rfl)) rfl rfl (.inl (by decide)) ?_)
      intro g67 w68 M
      refine ⟨(M.sub (cn (cn (cn (cn (cn (cn (cc (cc (cn (List.nil_sublist _))))))))))), ?_⟩
      intro a A
      refine zy (by kernel_rfl) (qlb (e := 41) (sz := 2) (k := 5) (q := ([(Sp.mk (if v = true then 6 else 4) none 0 [])] ++ [(Sp.mk 8 (some ⟨gf8, 0, none⟩) 1 [a2])]).length) (m := 2) (xs := zh Sp.c ([(Sp.mk (if v = true then 6 else 4) none 0 [])] ++ [(Sp.mk 8 (some ⟨gf8, 0, none⟩) 1 [a2])])) (news := zh Sp.c [(Sp.mk 1 (some ⟨gf1, 0, none⟩) 1 [m2]), (Sp.mk 7 (some ⟨gf7, 0, none⟩) 1 [dl])]) (L' := fun v69 => (.row 41 2 (.slice (some ⟨g67, 0, none⟩) 2 2) 2 (zh Sp.c [(Sp.mk 1 (some ⟨gf1, 0, none⟩) 1 [m2]), (Sp.mk 7 (some ⟨gf7, 0, none⟩) 1 [dl])]) :: .row 53 11 (.slice (some ⟨gf7, 0, none⟩) 1 1) 1 (cellsOf [dl]) :: .row 53 11 (.slice (some ⟨gf1, 0, none⟩) 1 1) 1 (cellsOf [m2]) :: .row 41 2 (.slice (some ⟨g54, 0, none⟩) 1 1) 1 (zh Sp.c [(Sp.mk 8 (some ⟨gf8, 0, none⟩) 1 [a2])]) :: .row 53 11 (.slice (some ⟨gf8, 0, none⟩) 1 1) 1 (cellsOf [a2]) :: .row 41 2 (v69) (([(Sp.mk (if v = true then 6 else 4) none 0 [])] ++ [(Sp.mk 8 (some ⟨gf8, 0, none⟩) 1 [a2])]).length + 2) (zh Sp.c ([(Sp.mk (if v = true then 6 else 4) none 0 [])] ++ [(Sp.mk 8 (some ⟨gf8, 0, none⟩) 1 [a2])]) ++ zh Sp.c [(Sp.mk 1 (some ⟨gf1, 0, none⟩) 1 [m2]), (Sp.mk 7 (some ⟨gf7, 0, none⟩) 1 [dl])]) :: .obj g9 (.cells (dl.d.cells dl.ts.length).toArray 53) :: .obj g4 (.cells (dm.d.cells dm.ts.length).toArray 53) :: .obj g2 (.cells (da.d.cells da.ts.length).toArray 53) :: (made w57.drew w62 ++ (made w49 w51 ++ (made w5 w8 ++ []))))) A 7 rfl rfl rfl rfl (vm (z := .agg #[.int .i64 0, .slice none 0 0]) (sz := 2) (by_ := 32) Tryz.underlying34 (by kernel_rfl) rfl rfl rfl M 5 rfl rfl rfl rfl (xq (M.has 0 rfl)) (qjc _) (by first | omega | (simp only [List.length_append, List.length_cons, List.length_nil]; omega))) (fun _ => rfl) ?_)
      intro v69 w70 M
      replace M : Mg w w70 (.row 41 2 (.slice (some ⟨g67, 0, none⟩) 2 2) 2 (zh Sp.c [(Sp.mk 1 (some ⟨gf1, 0, none⟩) 1 [m2]), (Sp.mk 7 (some ⟨gf7, 0, none⟩) 1 [dl])]) :: .row 53 11 (.slice (some ⟨gf7, 0, none⟩) 1 1) 1 (cellsOf [dl]) :: .row 53 11 (.slice (some ⟨gf1, 0, none⟩) 1 1) 1 (cellsOf [m2]) :: .row 41 2 (.slice (some ⟨g54, 0, none⟩) 1 1) 1 (zh Sp.c [(Sp.mk 8 (some ⟨gf8, 0, none⟩) 1 [a2])]) :: .row 53 11 (.slice (some ⟨gf8, 0, none⟩) 1 1) 1 (cellsOf [a2]) :: .row 41 2 (v69) ((([(Sp.mk (if v = true then 6 else 4) none 0 [])] ++ [(Sp.mk 8 (some ⟨gf8, 0, none⟩) 1 [a2])]) ++ [(Sp.mk 1 (some ⟨gf1, 0, none⟩) 1 [m2]), (Sp.mk 7 (some ⟨gf7, 0, none⟩) 1 [dl])]).length) (zh Sp.c (([(Sp.mk (if v = true then 6 else 4) none 0 [])] ++ [(Sp.mk 8 (some ⟨gf8, 0, none⟩) 1 [a2])]) ++ [(Sp.mk 1 (some ⟨gf1, 0, none⟩) 1 [m2]), (Sp.mk 7 (some ⟨gf7, 0, none⟩) 1 [dl])])) :: .obj g9 (.cells (dl.d.cells dl.ts.length).toArray 53) :: .obj g4 (.cells (dm.d.cells dm.ts.length).toArray 53) :: .obj g2 (.cells (da.d.cells da.ts.length).toArray 53) :: (made w57.drew w62 ++ (made w49 w51 ++ (made w5 w8 ++ [])))) := by
       rw [xf, List.length_append]; exact M
      obtain ⟨so71, ca72, rfl⟩ := jr (M.has 5 rfl)
      refine ⟨(M.sub (cn (cn (cn (cn (cn (cn (cc (cc (cn (List.nil_sublist _))))))))))), ?_⟩
      intro a A
      refine qm A 8 rfl rfl rfl rfl hP (M.sub (cn (cn (cn (cn (cn (cn (cc (cc (cn (List.nil_sublist _))))))))))) (fun w1 M => zq rfl) λa A↦?_
      refine qm A 9 rfl rfl rfl rfl hP (M.sub (cn (cn (cn (cn (cn (cn (cc (cc (cn (List.nil_sublist _))))))))))) (fun w1 M => zq rfl) λa A↦?_
      refine jo (by kernel_rfl) ?_
      refine hK60 _ _ (wp_ret (hret _ _ (en2 A rfl (qe rfl) (qe rfl) ?_)))
      have hps : ∀ p ∈ [(Sp.mk (if v = true then 6 else 4) none 0 []), (Sp.mk 8 (some ⟨gf8, 0, none⟩) 1 [a2]), (Sp.mk 1 (some ⟨gf1, 0, none⟩) 1 [m2]), (Sp.mk 7 (some ⟨gf7, 0, none⟩) 1 [dl])], SpR w70 p := by
       intro p hp
       simp only [List.mem_cons, List.not_mem_nil, or_false] at hp
       rcases hp with h9 | h9 | h9 | h9 <;> subst h9
       ·
        exact ⟨fun h => absurd rfl h, fun t h => by cases h⟩
       ·
        exact ⟨(vg (M.has 4 rfl)).1, fun t ht => by rw [List.mem_singleton.1 ht]; exact (hLa2 _ _ ((M.dropn 9).sub ((List.sublist_append_left _ _).trans (List.sublist_append_right _ _))))⟩
       ·
        exact ⟨(vg (M.has 2 rfl)).1, fun t ht => by rw [List.mem_singleton.1 ht]; exact (hLm2 _ _ ((M.dropn 9).sub (List.sublist_append_left _ _)))⟩
       ·
        exact ⟨(vg (M.has 1 rfl)).1, fun t ht => by rw [List.mem_singleton.1 ht]; exact (hLdl _ _ ((M.dropn 9).sub (((List.sublist_append_left _ _).trans (List.sublist_append_right _ _)).trans (List.sublist_append_right _ _))))⟩
      exact ⟨so71, ca72, [(Sp.mk (if v = true then 6 else 4) none 0 []), (Sp.mk 8 (some ⟨gf8, 0, none⟩) 1 [a2]), (Sp.mk 1 (some ⟨gf1, 0, none⟩) 1 [m2]), (Sp.mk 7 (some ⟨gf7, 0, none⟩) 1 [dl])], 0, rfl, ⟨by rw [erS_t hb14 hb17 (htl ▸ hb20) hb32, ← htl, ← hta2, ← htm2]; rcases v with _ | _ <;> rfl, ⟨xq (M.has 5 rfl), hps⟩⟩, M.bel⟩
    refine wsk fun K73 hK73 => wrl (sdm A λa A↦?_)
    refine qa (hK73 _ _ ?_)
    refine wp_cond_split (t := v) (A.ev rfl) (fun hc74 => ?_) (fun hc74 => ?_)
    ·
     refine wrl (sdm A λa A↦?_)
     refine sdo (v := .pointer (some ⟨g24, 0, none⟩)) A (vj (k := 0) (sz := 2) Tryz.underlying34 (by kernel_rfl) rfl rfl rfl Nat.zero_lt_one) λa A↦?_
     refine sdo (v := .pointer (some ⟨g24, 0, none⟩)) A (qb KcE_fld_41_0 rfl rfl) λa A↦?_
     refine uw (cs := [.int .i64 6]) (us := zh Sp.c [(Sp.mk 6 none 0 [])]) (L' := (.row 41 2 (.slice (some ⟨g24, 0, none⟩) 1 1) 1 (zh Sp.c [(Sp.mk 6 none 0 [])]) :: .obj g9 (.cells (dl.d.cells dl.ts.length).toArray 53) :: .obj g4 (.cells (dm.d.cells dm.ts.length).toArray 53) :: .obj g2 (.cells (da.d.cells da.ts.length).toArray 53) :: (made w5 w8 ++ []))) A M rfl rfl (qda rfl rfl rfl (by kernel_rfl) M 0 rfl (by decide) rfl) 0 rfl rfl rfl ?_
     intro w75 M hK76
     refine qa ?_
     replace M : Mg w w75 (.row 41 2 (.slice (some ⟨g24, 0, none⟩) 1 1) 1 (zh Sp.c [(Sp.mk (if v = true then 6 else 4) none 0 [])]) :: .obj g9 (.cells (dl.d.cells dl.ts.length).toArray 53) :: .obj g4 (.cells (dm.d.cells dm.ts.length).toArray 53) :: .obj g2 (.cells (da.d.cells da.ts.length).toArray 53) :: (made w5 w8 ++ [])) := by rw [if_pos hc74]; exact M
     exact hJ27 _ _ ⟨A.keep _ (by repeat' constructor), M⟩
    ·
     refine wp_skip ?_
     replace M : Mg w w25 (.row 41 2 (.slice (some ⟨g24, 0, none⟩) 1 1) 1 (zh Sp.c [(Sp.mk (if v = true then 6 else 4) none 0 [])]) :: .obj g9 (.cells (dl.d.cells dl.ts.length).toArray 53) :: .obj g4 (.cells (dm.d.cells dm.ts.length).toArray 53) :: .obj g2 (.cells (da.d.cells da.ts.length).toArray 53) :: (made w5 w8 ++ [])) := by rw [if_neg (by rw [hc74]; decide)]; exact M
     exact hJ27 _ _ ⟨A.keep _ (by repeat' constructor), M⟩
   ·
    refine gcl A M (ef rfl rfl) ((hb20 ▸ jm (t := dl) (hLdl _ _ ((M.dropn 3).sub (List.sublist_append_left _ _))) (hT.below M.bel))) fun w78 hb77 M a A => ?_
    refine sdk (v := .bool true) A λa A↦?_
    refine qa (hK13 _ _ (wp_cond_true (A.ev rfl) ?_))
    refine wsk fun K79 hK79 => wrl ?_
    iterate 2 refine sda A λa A↦?_
    refine qa (hK79 _ _ (wp_ret (hret _ _ (en2 A rfl (qe rfl) (qe rfl) ?_))))
    exact ⟨none, 0, [], 2, rfl, ⟨(erS_no (fun h => by rw [← htl] at h; have h9 := h.2.2; rw [hb20] at h9; cases h9)).symm, ⟨fun h => absurd rfl h, fun p h => by cases h⟩⟩, M.bel⟩
  ·
   refine gcl A M (ef rfl rfl) ((hb17 ▸ jm (t := dm) (Dt.keep M.bel _ hm) (hT.below M.bel))) fun w81 hb80 M a A => ?_
   refine sdk (v := .bool true) A λa A↦?_
   refine sdm A λa A↦?_
   iterate 2 refine qt A rfl rfl rfl λa A↦?_
   refine sdk (v := .bool true) A λa A↦?_
   refine qa (hK13 _ _ (wp_cond_true (A.ev rfl) ?_))
   refine wsk fun K82 hK82 => wrl ?_
   iterate 2 refine sda A λa A↦?_
   refine qa (hK82 _ _ (wp_ret (hret _ _ (en2 A rfl (qe rfl) (qe rfl) ?_))))
   exact ⟨none, 0, [], 2, rfl, ⟨(erS_no (fun h => by have h9 := h.2.1; rw [hb17] at h9; cases h9)).symm, ⟨fun h => absurd rfl h, fun p h => by cases h⟩⟩, M.bel⟩
 ·
  refine gcl A M (ef rfl rfl) ((hb14 ▸ jm (t := da) (Dt.keep M.bel _ ha) (hT.below M.bel))) fun w84 hb83 M a A => ?_
  refine sdm A λa A↦?_
  iterate 2 refine qt A rfl rfl rfl λa A↦?_
  refine sdk (v := .bool true) A λa A↦?_
  refine sdm A λa A↦?_
  iterate 2 refine qt A rfl rfl rfl λa A↦?_
  refine sdk (v := .bool true) A λa A↦?_
  refine qa (hK13 _ _ (wp_cond_true (A.ev rfl) ?_))
  refine wsk fun K85 hK85 => wrl ?_
  iterate 2 refine sda A λa A↦?_
  refine qa (hK85 _ _ (wp_ret (hret _ _ (en2 A rfl (qe rfl) (qe rfl) ?_))))
  exact ⟨none, 0, [], 2, rfl, ⟨(erS_no (fun h => by have h9 := h.1; rw [hb14] at h9; cases h9)).symm, ⟨fun h => absurd rfl h, fun p h => by cases h⟩⟩, M.bel⟩
end Go.Proofs.YtdpakekdbkpdfaaGreatDoor.G
namespace Go.Proofs
open Go.Shelf
def Tryz.lays240_ren : Go.Shelf.Ren := ⟨fun | 240 => 69 | 276 => 85 | n => n, fun | 70 => 76 | 0 => 0 | 72 => 78 | 4 => 4 | 164 => 119 | 37 => 51 | 5 => 5 | 9 => 9 | 20 => 20 | n => n, fun | n => n⟩
theorem Tryz.lays240 : Go.Proofs.Lays.n240 Tryz.prog Tryz.lays240_ren := {
  mixed := by kernel_rfl
  f240 := Tryz.func69.trans (congrArg some (by kernel_rfl))
  f276 := Tryz.func85.trans (congrArg some (by kernel_rfl))
  t0 := Tryz.underlying0
  a0 := Tryz.isAgg0
  z0 := Tryz.sizeOf0
  v0 := Tryz.zeroValue0
  t4 := Tryz.underlying4
  a4 := Tryz.isAgg4
  z4 := Tryz.sizeOf4
  v4 := Tryz.zeroValue4
  t9 := Tryz.underlying9
  a9 := Tryz.isAgg9
  z9 := Tryz.sizeOf9
  v9 := Tryz.zeroValue9
  t20 := Tryz.underlying20
  a20 := Tryz.isAgg20
  z20 := Tryz.sizeOf20
  v20 := Tryz.zeroValue20
  t70 := Tryz.underlying76
  a70 := Tryz.isAgg76
  z70 := Tryz.sizeOf76
  v70 := Tryz.zeroValue76
  t72 := Tryz.underlying78
  a72 := Tryz.isAgg78
  z72 := Tryz.sizeOf78
  v72 := Tryz.zeroValue78
  t164 := Tryz.underlying119
  a164 := Tryz.isAgg119
  z164 := Tryz.sizeOf119
  v164 := Tryz.zeroValue119 }
theorem Tryz.Builder_X72_240 : Builder.X72 Tryz.prog Tryz.lays240_ren := {
  sizeBuilder := by kernel_rfl
  liesBuilder := by kernel_rfl }
end Go.Proofs
namespace Go.Proofs.YtdpakekdbkpdfaaGreatDoor.G
open Go.RowKit Go.Shelf
set_option linter.unusedVariables false
set_option linter.unusedSimpArgs false

theorem cc_used {w : World} {gw : Nat} (h0 : w.cell? ⟨gw, 0, none⟩ = some (.pointer (some ⟨gw, 0, none⟩))) : Calls Tryz.prog 69 #[.pointer (some ⟨gw, 0, none⟩)] w fun e w' => e = .returned (.tuple #[]) ∧ w' = w :=
  Any.Builder_copyCheck_used Tryz.lays240 Tryz.Builder_X72_240 gw w h0
set_option maxHeartbeats 1000000 in
set_option maxRecDepth 100000 in
theorem cc_fresh {w : World} {gw : Nat} (h0 : w.cell? ⟨gw, 0, none⟩ = some (.pointer none)) (hsh : w.shape? gw = some (135, 3)) (hfz : w.frozen? ⟨gw, 0, none⟩ = false) : Calls Tryz.prog 69 #[.pointer (some ⟨gw, 0, none⟩)] w fun e w' => e = .returned (.tuple #[]) ∧ w' = w.setCell ⟨gw, 0, none⟩ (.pointer (some ⟨gw, 0, none⟩)) := by
  obtain ⟨j, hj, hjs⟩ := Option.map_eq_some_iff.1 Tryz.Builder_X72_240.sizeBuilder
  go_enter Tryz.func69, Tryz.ntmps69
  go_wp2
  rw [Lib.run_to_unsafe w ⟨gw, 0, none⟩ Tryz.underlying76 Tryz.underlying119 hj (by rw [hjs]; decide) hsh (Nat.zero_lt_succ 2)]
  simp only [Result.andThen]
  rw [Oper.upon_value]
  go_wp2
  rw [run_callFunc_extern Tryz.func85 (by kernel_rfl) (by kernel_rfl) (by kernel_rfl) (e := Extern.AbiNoEscape.same) (by kernel_rfl)]
  rw [Lib.run_noEscape]
  simp only [Result.andThen]
  rw [Oper.upon_value]
  go_wp2
  rw [Lib.run_from_unsafe w ⟨gw, 0, none⟩ Tryz.underlying119 Tryz.underlying76 hj hsh (by kernel_rfl)]
  simp only [Result.andThen]
  rw [Oper.upon_value]
  go_wp2
  go_end0
  exact ⟨rfl, rfl⟩
theorem cc_any {w0 w : World} {gw : Nat} {p v : Value} {pl : Bool} {L : List Ck} (hp : p = .pointer none ∨ p = .pointer (some ⟨gw, 0, none⟩)) (hM : Mg w0 w (.obj gw (.cells #[p, v, .bool pl] 135) :: L)) : Calls Tryz.prog 69 #[.pointer (some ⟨gw, 0, none⟩)] w fun e w' => e = .returned (.tuple #[]) ∧ Mg w0 w' (.obj gw (.cells #[.pointer (some ⟨gw, 0, none⟩), v, .bool pl] 135) :: L) := by
  have hc := hM.cell 0 (vs := [p, v, .bool pl]) rfl 0 rfl
  rcases hp with rfl | rfl
  · have hb := hM.obj 0 rfl
    refine (cc_fresh hc (by simp [World.shape?, hb]) (hM.froz 0 (vs := [_, _, _]) rfl 0)).mono ?_
    rintro e w' ⟨rfl, rfl⟩
    exact ⟨rfl, hM.put 0 (vs := [_, v, .bool pl]) rfl 0 _⟩
  · refine (cc_used hc).mono ?_
    rintro e w' ⟨rfl, rfl⟩
    exact ⟨rfl, hM⟩
theorem qbe {B : Nat} {w0 w : World} (h : Below B w0 w) {g : Nat} (hg : B ≤ g) (n : Nat) : Below B w0 (w.freeze ⟨g, 0, none⟩ n) := Lib.below_freeze h (p := ⟨g, 0, none⟩) hg n
set_option maxHeartbeats 1000000 in
set_option maxRecDepth 100000 in
theorem str_pos {w : World} {B gw g cap : Nat} {p q : Value} {l : List UInt8} {cur : Array Value} (h0 : l ≠ []) (hbk : w.heap[gw]? = some (.cells #[p, .slice (some ⟨g, 0, none⟩) l.length cap, q] 135 (0, 0))) (hg : w.heap[g]? = some (.cells cur 5 (0, 0))) (hcap : l.length ≤ cap) (hmax : l.length ≤ 9223372036854775807) (hB : B ≤ g)
    (hcs : ∀ j x, l[j]? = some x → w.cell? ⟨g, j, none⟩ = some (.int .u8 ((x : UInt8).toNat : Nat))) (hsz : l.length ≤ cur.size) : Calls Tryz.prog 49 #[.pointer (some ⟨gw, 0, none⟩)] w fun e w' => e = .returned (.string ⟨l.toArray⟩) ∧ Below B w w' := by
  have hl0 : l.length ≠ 0 := by simpa using h0
  have mixed : Tryz.prog.follows .mixedOrders = true := by kernel_rfl
  have c1 : w.drew.cell? ⟨gw, 1, none⟩ = some (.slice (some ⟨g, 0, none⟩) l.length cap) := by
    have : w.drew.heap[gw]? = some (.cells #[p, .slice (some ⟨g, 0, none⟩) l.length cap, q] 135 (0, 0)) := hbk
    rw [Lib.cell_of_heap this]; rfl
  have hSD : (Builtin.unsafeSliceData_ #[51] 110 #[.slice (some ⟨g, 0, none⟩) l.length cap]).run Tryz.prog w.drew = .ok (.pointer (some ⟨g, 0, none⟩)) w.drew :=
    Lib.run_unsafeSliceData_row _ _ _ _ _ _ (by omega)
  have hUS : (Builtin.unsafeString_ #[110, 3] 9 #[.pointer (some ⟨g, 0, none⟩), .int .i64 l.length]).run Tryz.prog w.drew = .ok (.string ⟨l.toArray⟩) (w.drew.freeze ⟨g, 0, none⟩ l.length) :=
    Lib.run_unsafeString_row w.drew 110 3 9 5 Tryz.underlying110 (by kernel_rfl) g cur.size (by have hg' : w.drew.heap[g]? = some (.cells cur 5 (0, 0)) := hg; simp [World.shape?, hg']) l h0 (by omega) (by omega) (fun j x hx => by rw [jg, Nat.zero_add]; exact hcs j x hx)
  go_enter Tryz.func49, Tryz.ntmps49
  go_wp2
  go_region_o
  all_goals (go_wp2; go_ret; exact ⟨rfl, qbe (Below.drew (Below.refl B w)) hB _⟩)
/-- A text appended to a row of bytes: the row vn where it is, or lies in a new block. -/
theorem run_appendS {P : Program} (w : World) (base : Nat) (t u ty e : TypeId) (i : TypeInfo) (ht : P.underlying t = some (.slice e)) (hu : P.underlying u = some .string) (hi : P.info? e = some i) (hz : i.zero = some (.int .u8 0)) (hsize : i.size = 1) (hby : i.bytes = 1)
    (v : Value) (n : Nat) (xs : List Value) (hown : w.ownsRow base e 1 v n xs) (s : ByteArray) (h63 : n + s.size ≤ 140737488355328) (hbase : base ≤ w.heap.size) :
    ∃ v' w', (Builtin.append_ #[t, u] ty #[v, .string s]).run P w = .ok v' w' ∧ w'.ownsRow base e 1 v' (n + s.size) (xs ++ Lib.strCells s) ∧ w.grownBy w' v.ownBlock ∧ (v'.ownBlock = v.ownBlock ∨ v'.ownBlock = some w.heap.size) := by
  obtain ⟨v', w', hr, h2, h3, h4⟩ := Lib.run_append_own_string (P := P) w base t u ty e i ht hu hi hz hsize hby v n xs hown s (by unfold maxLen; omega) h63 hbase
  refine ⟨v', w', hr, h2, h3, ?_⟩
  rcases hown.2 with ⟨rfl, rfl⟩ | ⟨g, cap, cur, rfl, hbg, hg, hnc, hcm, hcs, htake⟩
  · by_cases hm : s.size = 0
    · left; rw [h4.2 ⟨rfl, hm⟩]
    · right
      have hr2 := run_append_nil_string (P := P) w t u ty e i (.int .u8 0) ht hu hi hz s (by omega) (by omega) (by rw [hby]; omega)
      rw [hr] at hr2
      injection hr2 with e1 _
      rw [e1]; rfl
  · by_cases hroom : n + s.size ≤ cap
    · left
      have hr2 := Lib.run_append_room_string (P := P) w t u ty e i ht hu hi hsize g n cap cur hg s hroom (by simp at hcs; omega)
      rw [hr] at hr2
      injection hr2 with e1 _
      rw [e1]; rfl
    · right
      have hxl : xs.length = n := by simpa using hown.1
      have hr2 := Lib.run_append_grow_string (P := P) w t u ty e i (.int .u8 0) ht hu hi hz ⟨g, 0, none⟩ n cap xs (by rw [hsize]; simpa using hxl) (hown.cells (g := g) rfl) s (by omega) (by omega) (by rw [hby]; exact growslice_fits (by omega) (by omega))
      rw [hr] at hr2
      injection hr2 with e1 _
      rw [e1]; rfl
section
variable {P : Program} {w0 w : World} {L : List Ck} {l : List (Nat × Value)} {dst : Option Tmp} {ty : TypeId} {pos : String} {after : Array Edge} {guard : Option (Nat × Bool)} {v : Value}
theorem ap_move {w : World} {B : Nat} {e : TypeId} {v v' : Value} {n n' : Nat} {xs xs' : List Value} {d : Ck} (hd : d.holds B w) (hat : v'.ownBlock = v.ownBlock ∨ v'.ownBlock = some w.heap.size) (ha : Ap (.row e 1 v n xs) d) : Ap (.row e 1 v' n' xs') d := by
  have hl := Ck.lt hd
  have key : ∀ z, d.at_ = some z → v.ownBlock ≠ some z → v'.ownBlock ≠ some z := fun z hz hne e => by
    rcases hat with h | h
    · exact hne (h ▸ e)
    · rw [h] at e
      have := (hl z hz).2
      have e2 : w.heap.size = z := Option.some.inj e
      omega
  cases d with
  | obj g' o' => exact key g' rfl ha
  | row e' sz' v2 n2 xs2 =>
    by_cases hz : v2.ownBlock = none
    · by_cases hv : v'.ownBlock = none
      · exact .inl hv
      · exact .inr (fun e => hv (e.trans hz))
    · obtain ⟨z, hz⟩ := Option.ne_none_iff_exists'.1 hz
      right
      rw [hz]
      refine key z hz ?_
      rcases ha with ha | ha
      · rw [ha]; simp
      · exact fun e => ha (e.trans hz.symm)
  | bld b' bs' => exact ⟨ha.1, key b' rfl ha.2⟩
theorem qbf {t u : TypeId} {x y : Operand} (ht : P.underlying t = some (.slice BY)) (hu : P.underlying u = some .string) (hinfo : (P.info? BY).map (fun i => (i.zero, i.size, i.bytes)) = some (some (.int .u8 0), 1, 1)) (hM : Mg w0 w L) (k : Nat) {q : Nat} {xs : List Value} (hk : L[k]? = some (.row BY 1 v q xs)) (hx : ev l x = some v) {s : ByteArray} (hy : ev l y = some (.string s)) (hlen : q + s.size ≤ 140737488355328) :
    ∃ v' w', Does P l ⟨dst, .call ⟨.builtin .append, #[x, y], #[t, u]⟩, ty, pos, after, guard⟩ w v' w' ∧ Mg w0 w' (L.set k (.row BY 1 v' (q + s.size) (xs ++ Lib.strCells s))) := by
  obtain ⟨i, hi, hzz⟩ := Option.map_eq_some_iff.1 hinfo
  simp only [Prod.mk.injEq] at hzz
  obtain ⟨hz, hs, hb⟩ := hzz
  obtain ⟨v', w', hr, hown, hgr, hat⟩ := run_appendS (P := P) w w0.heap.size t u ty BY i ht hu hi hz hs hb v q xs (hM.has k hk) s hlen hM.bel.size
  refine ⟨v', w', fun ρ h => ?_, hM.turn k hk (by simp) hgr hown (fun d hd ha => ap_move (hM.all d hd) hat ha)⟩
  simp [execOp, resolve, invoke, builtin, h x _ hx, h y _ hy, hr]
end
set_option maxHeartbeats 1000000 in
set_option maxRecDepth 100000 in
theorem cc2_fresh {w : World} {gw : Nat} (h0 : w.cell? ⟨gw, 0, none⟩ = some (.pointer none)) (hsh : w.shape? gw = some (78, 2)) (hfz : w.frozen? ⟨gw, 0, none⟩ = false) : Calls Tryz.prog 69 #[.pointer (some ⟨gw, 0, none⟩)] w fun e w' => e = .returned (.tuple #[]) ∧ w' = w.setCell ⟨gw, 0, none⟩ (.pointer (some ⟨gw, 0, none⟩)) := by
  obtain ⟨j, hj, hjs⟩ := Option.map_eq_some_iff.1 Tryz.Builder_X72_240.sizeBuilder
  go_enter Tryz.func69, Tryz.ntmps69
  go_wp2
  rw [Lib.run_to_unsafe w ⟨gw, 0, none⟩ Tryz.underlying76 Tryz.underlying119 hj (by rw [hjs]; decide) hsh (Nat.zero_lt_succ 1)]
  simp only [Result.andThen]
  rw [Oper.upon_value]
  go_wp2
  rw [run_callFunc_extern Tryz.func85 (by kernel_rfl) (by kernel_rfl) (by kernel_rfl) (e := Extern.AbiNoEscape.same) (by kernel_rfl)]
  rw [Lib.run_noEscape]
  simp only [Result.andThen]
  rw [Oper.upon_value]
  go_wp2
  rw [Lib.run_from_unsafe w ⟨gw, 0, none⟩ Tryz.underlying119 Tryz.underlying76 hj hsh (by kernel_rfl)]
  simp only [Result.andThen]
  rw [Oper.upon_value]
  go_wp2
  go_end0
  exact ⟨rfl, rfl⟩
theorem cc2_any {w0 w : World} {gw : Nat} {p v : Value} {L : List Ck} (hp : p = .pointer none ∨ p = .pointer (some ⟨gw, 0, none⟩)) (hM : Mg w0 w (.obj gw (.cells #[p, v] 78) :: L)) : Calls Tryz.prog 69 #[.pointer (some ⟨gw, 0, none⟩)] w fun e w' => e = .returned (.tuple #[]) ∧ Mg w0 w' (.obj gw (.cells #[.pointer (some ⟨gw, 0, none⟩), v] 78) :: L) := by
  have hc := hM.cell 0 (vs := [p, v]) rfl 0 rfl
  rcases hp with rfl | rfl
  · have hb := hM.obj 0 rfl
    refine (cc2_fresh hc (by simp [World.shape?, hb]) (hM.froz 0 (vs := [_, _]) rfl 0)).mono ?_
    rintro e w' ⟨rfl, rfl⟩
    exact ⟨rfl, hM.put 0 (vs := [_, v]) rfl 0 _⟩
  · refine (cc_used hc).mono ?_
    rintro e w' ⟨rfl, rfl⟩
    exact ⟨rfl, hM⟩
set_option maxHeartbeats 1000000 in
set_option maxRecDepth 100000 in
theorem str2_pos {w : World} {B gw g cap : Nat} {p : Value} {l : List UInt8} {cur : Array Value} (h0 : l ≠ []) (hbk : w.heap[gw]? = some (.cells #[p, .slice (some ⟨g, 0, none⟩) l.length cap] 78 (0, 0))) (hg : w.heap[g]? = some (.cells cur 5 (0, 0))) (hcap : l.length ≤ cap) (hmax : l.length ≤ 9223372036854775807) (hB : B ≤ g)
    (hcs : ∀ j x, l[j]? = some x → w.cell? ⟨g, j, none⟩ = some (.int .u8 ((x : UInt8).toNat : Nat))) (hsz : l.length ≤ cur.size) : Calls Tryz.prog 49 #[.pointer (some ⟨gw, 0, none⟩)] w fun e w' => e = .returned (.string ⟨l.toArray⟩) ∧ Below B w w' := by
  have hl0 : l.length ≠ 0 := by simpa using h0
  have mixed : Tryz.prog.follows .mixedOrders = true := by kernel_rfl
  have c1 : w.drew.cell? ⟨gw, 1, none⟩ = some (.slice (some ⟨g, 0, none⟩) l.length cap) := by
    have : w.drew.heap[gw]? = some (.cells #[p, .slice (some ⟨g, 0, none⟩) l.length cap] 78 (0, 0)) := hbk
    rw [Lib.cell_of_heap this]; rfl
  have hSD : (Builtin.unsafeSliceData_ #[51] 110 #[.slice (some ⟨g, 0, none⟩) l.length cap]).run Tryz.prog w.drew = .ok (.pointer (some ⟨g, 0, none⟩)) w.drew :=
    Lib.run_unsafeSliceData_row _ _ _ _ _ _ (by omega)
  have hUS : (Builtin.unsafeString_ #[110, 3] 9 #[.pointer (some ⟨g, 0, none⟩), .int .i64 l.length]).run Tryz.prog w.drew = .ok (.string ⟨l.toArray⟩) (w.drew.freeze ⟨g, 0, none⟩ l.length) :=
    Lib.run_unsafeString_row w.drew 110 3 9 5 Tryz.underlying110 (by kernel_rfl) g cur.size (by have hg' : w.drew.heap[g]? = some (.cells cur 5 (0, 0)) := hg; simp [World.shape?, hg']) l h0 (by omega) (by omega) (fun j x hx => by rw [jg, Nat.zero_add]; exact hcs j x hx)
  go_enter Tryz.func49, Tryz.ntmps49
  go_wp2
  go_region_o
  all_goals (go_wp2; go_ret; exact ⟨rfl, qbe (Below.drew (Below.refl B w)) hB _⟩)
theorem qfb {P : Program} {t : TypeId} {x y : Operand} {a b : List UInt8} (hm : a.length + b.length ≤ 9223372036854775807) : ∀ w, (do eqGuard .add t x y (.string ⟨a.toArray⟩) (.string ⟨b.toArray⟩); binOp .add t (.string ⟨a.toArray⟩) (.string ⟨b.toArray⟩) : Sem Value).run P w = .ok (.string ⟨(a ++ b).toArray⟩) w := fun w => by
  have e : (⟨a.toArray⟩ ++ ⟨b.toArray⟩ : ByteArray) = ⟨(a ++ b).toArray⟩ := by
    apply ByteArray.ext
    simp
  rw [bin_addS (P := P) (a := ⟨a.toArray⟩) (b := ⟨b.toArray⟩) (by show a.toArray.size + b.toArray.size ≤ _; simpa using hm) w, e]
open Go.RowKit
set_option maxRecDepth 100000
theorem TwA_is1_51 : Is1 Tryz.prog 51 := ⟨⟨_, Tryz.underlying51, rfl⟩, by kernel_rfl⟩
theorem TwA_fld_78_1 : FieldAt Tryz.prog 78 1 1 := ⟨_, _, Tryz.underlying78, rfl, rfl, by kernel_rfl⟩
theorem toW {w0 w : World} {a b : Ck} {X T : List Ck} (h : Mg w0 w (X ++ a :: b :: T)) : Mg w0 w (a :: b :: (X ++ T)) := h.perm (List.perm_middle.trans (.cons _ List.perm_middle))
theorem fromW {w0 w : World} {a b : Ck} {X T : List Ck} (h : Mg w0 w (a :: b :: (X ++ T))) : Mg w0 w (X ++ a :: b :: T) := h.perm ((List.perm_middle.trans (.cons _ List.perm_middle)).symm)
theorem qhg (s : ByteArray) : Lib.strCells s = Lib.byteCells s.data.toList := rfl
theorem row_str {bs : List UInt8} {s : ByteArray} : bs.length + s.size = (bs ++ s.data.toList).length := by rw [List.length_append, jq]
theorem wstr_any {w0 w : World} {gw : Nat} {p v : Value} {pl : Bool} {bs : List UInt8} {T : List Ck} (hp : p = .pointer none ∨ p = .pointer (some ⟨gw, 0, none⟩)) (hM0 : Mg w0 w (.obj gw (.cells #[p, v, .bool pl] 135) :: .row BY 1 v bs.length (Lib.byteCells bs) :: T)) {s : ByteArray} (hroom : bs.length + s.size ≤ 140737488355328) : Calls Tryz.prog 43 #[.pointer (some ⟨gw, 0, none⟩), .string s] w fun e w' => e = .returned (.tuple #[.int .i64 ((s.size : Nat) : Int), .nilIface]) ∧ ∃ v', Mg w0 w' (.obj gw (.cells #[.pointer (some ⟨gw, 0, none⟩), v', .bool pl] 135) :: .row BY 1 v' (bs ++ s.data.toList).length (Lib.byteCells (bs ++ s.data.toList)) :: T) := by
 have hM : Mg w0 w (.obj gw (.cells #[p, v, .bool pl] 135) :: .row BY 1 (v) bs.length ((Lib.byteCells bs)) :: T) := hM0
 refine qr (l := [(0, .pointer (some ⟨gw, 0, none⟩)), (1, .string s)]) Tryz.func43 rfl Tryz.ntmps43 rfl rfl ?_
 intro Q hret hnorm hP a hA
 refine wp_seq_k (fun K1 hK1 => ?_)
 refine wp_region_lit ?_
 refine jd hA rfl rfl rfl (zq rfl) ?_
 intro a hA
 refine jd hA rfl rfl rfl (zq rfl) ?_
 intro a hA
 refine qa ?_
 refine hK1 _ _ ?_
 refine wp_seq_k (fun K2 hK2 => ?_)
 refine wp_region_lit ?_
 refine jd hA rfl rfl rfl (zj rfl) ?_
 intro a hA
 refine xg hA rfl rfl rfl (zf rfl rfl (fun w => by kernel_rfl)) (cc_any hp hM) ?_
 rintro _ w3 ⟨rfl, hMc⟩
 replace hM : Mg w0 w3 (.obj gw (.cells #[.pointer (some ⟨gw, 0, none⟩), v, .bool pl] 135) :: .row BY 1 (v) bs.length ((Lib.byteCells bs)) :: T) := hMc
 refine ⟨_, rfl, ?_⟩
 intro a hA
 refine qa ?_
 refine hK2 _ _ ?_
 refine wp_seq_k (fun K4 hK4 => ?_)
 refine wp_region_lit ?_
 refine jd hA rfl rfl rfl (zj rfl) ?_
 intro a hA
 refine jd hA rfl rfl rfl (zj rfl) ?_
 intro a hA
 refine jd hA rfl rfl rfl (jc rfl) ?_
 intro a hA
 refine jd (v := .pointer (some ⟨gw, 1, none⟩)) hA rfl rfl rfl (qb TwA_fld_78_1 rfl rfl) ?_
 intro a hA
 refine jd hA rfl rfl rfl (qi hM TwA_is1_51 rfl 0 rfl rfl) ?_
 intro a hA
 refine jd hA rfl rfl rfl (zj rfl) ?_
 intro a hA
 refine qkj (k := 1) (q := bs.length) (m := s.size) (xs := Lib.byteCells bs) (news := Lib.strCells s) (L' := fun v5 => (.obj gw (.cells #[.pointer (some ⟨gw, 0, none⟩), v, .bool pl] 135) :: .row BY 1 (v5) ((bs.length + s.size)) ((Lib.byteCells bs ++ Lib.strCells s)) :: T)) hA rfl rfl rfl (qbf Tryz.underlying51 Tryz.underlying9 (by kernel_rfl) hM 1 rfl rfl rfl hroom) (fun _ => rfl) ?_
 intro v5 w6 hM a hA
 obtain ⟨so7, ca8, rfl⟩ := vz (hM.has 1 rfl)
 refine jd hA rfl rfl rfl (jc rfl) ?_
 intro a hA
 refine jd (v := .pointer (some ⟨gw, 1, none⟩)) hA rfl rfl rfl (qb TwA_fld_78_1 rfl rfl) ?_
 intro a hA
 refine qw (us := [.pointer (some ⟨gw, 0, none⟩), .slice so7 (bs.length + s.size) ca8, .bool pl]) (L' := (.obj gw (.cells #[.pointer (some ⟨gw, 0, none⟩), .slice so7 (bs.length + s.size) ca8, .bool pl] 135) :: .row BY 1 (.slice so7 (bs.length + s.size) ca8) ((bs.length + s.size)) ((Lib.byteCells bs ++ Lib.strCells s)) :: T)) hA hM rfl rfl (qj rfl rfl rfl (by kernel_rfl) hM 0 rfl rfl rfl) 0 rfl rfl rfl ?_
 intro w9 hM
 refine qa ?_
 refine hK4 _ _ ?_
 refine wp_seq_k (fun K10 hK10 => ?_)
 refine wp_region_lit ?_
 refine jd hA rfl rfl rfl (zj rfl) ?_
 intro a hA
 refine jd (v := .int .i64 (((s.size : Nat) : Int))) hA rfl rfl rfl (vy rfl (len_str Tryz.underlying9)) ?_
 intro a hA
 refine jd hA rfl rfl rfl (zq rfl) ?_
 intro a hA
 refine jd hA rfl rfl rfl (zq rfl) ?_
 intro a hA
 refine qa ?_
 refine hK10 _ _ ?_
 refine wp_ret ?_
 refine hret _ _ ?_
 refine kl (v := .tuple #[.int .i64 (((s.size : Nat) : Int)), .nilIface]) hA rfl (.cons (qe rfl) (.cons (qe rfl) .nil)) rfl ?_
 refine ⟨rfl, .slice so7 (bs.length + s.size) ca8, ?_⟩
 rw [← row_str, Lib.byteCells_append, ← qhg]
 exact hM
theorem KcT_is1_3 : Is1 Tryz.prog 3 := ⟨⟨_, Tryz.underlying3, rfl⟩, by kernel_rfl⟩
theorem KcT_is1_4 : Is1 Tryz.prog 4 := ⟨⟨_, Tryz.underlying4, rfl⟩, by kernel_rfl⟩
theorem KcT_is1_51 : Is1 Tryz.prog 51 := ⟨⟨_, Tryz.underlying51, rfl⟩, by kernel_rfl⟩
theorem KcT_is1_9 : Is1 Tryz.prog 9 := ⟨⟨_, Tryz.underlying9, rfl⟩, by kernel_rfl⟩
theorem KcT_fld_135_0 : FieldAt Tryz.prog 135 0 0 := ⟨_, _, Tryz.underlying135, rfl, rfl, by kernel_rfl⟩
theorem KcT_fld_135_1 : FieldAt Tryz.prog 135 1 2 := ⟨_, _, Tryz.underlying135, rfl, rfl, by kernel_rfl⟩
theorem KcT_fld_53_0 : FieldAt Tryz.prog 53 0 0 := ⟨_, _, Tryz.underlying53, rfl, rfl, by kernel_rfl⟩
theorem KcT_fld_53_3 : FieldAt Tryz.prog 53 3 8 := ⟨_, _, Tryz.underlying53, rfl, rfl, by kernel_rfl⟩
theorem KcT_fld_78_1 : FieldAt Tryz.prog 78 1 1 := ⟨_, _, Tryz.underlying78, rfl, rfl, by kernel_rfl⟩
theorem KcT_isS_53 : IsS Tryz.prog 53 11 := ⟨⟨_, Tryz.underlying53⟩, by kernel_rfl⟩
theorem ya {w0 w : World} {gb : Nat} {p v : Value} {bs : List UInt8} {T : List Ck} (hp : p = .pointer none ∨ p = .pointer (some ⟨gb, 0, none⟩)) (hM0 : Mg w0 w (.obj gb (.cells #[p, v] 78) :: .row BY 1 v bs.length (Lib.byteCells bs) :: T)) {s : ByteArray} (hroom : bs.length + s.size ≤ 140737488355328) : Calls Tryz.prog 43 #[.pointer (some ⟨gb, 0, none⟩), .string s] w fun e w' => e = .returned (.tuple #[.int .i64 ((s.size : Nat) : Int), .nilIface]) ∧ ∃ v', Mg w0 w' (.obj gb (.cells #[.pointer (some ⟨gb, 0, none⟩), v'] 78) :: .row BY 1 v' (bs ++ s.data.toList).length (Lib.byteCells (bs ++ s.data.toList)) :: T) := by
 have M : Mg w0 w (.obj gb (.cells #[p, v] 78) :: .row BY 1 (v) bs.length ((Lib.byteCells bs)) :: T) := hM0
 refine qr (l := [(0, .pointer (some ⟨gb, 0, none⟩)), (1, .string s)]) Tryz.func43 rfl Tryz.ntmps43 rfl rfl ?_
 intro Q hret hnorm hP a A
 refine wsk fun K1 hK1 => wrl ?_
 iterate 2 refine sda A λa A↦?_
 refine qa (hK1 _ _ (wsk fun K2 hK2 => wrl (sdm A λa A↦?_)))
 refine sct A (ef rfl rfl) (cc2_any hp M) ?_
 rintro _ w3 ⟨rfl, hMc⟩
 replace M : Mg w0 w3 (.obj gb (.cells #[.pointer (some ⟨gb, 0, none⟩), v] 78) :: .row BY 1 (v) bs.length ((Lib.byteCells bs)) :: T) := hMc
 refine ⟨_, rfl, ?_⟩
 intro a A
 refine qa (hK2 _ _ (wsk fun K4 hK4 => wrl ?_))
 iterate 2 refine sdm A λa A↦?_
 refine sdo A (jc rfl) λa A↦?_
 refine sdo (v := .pointer (some ⟨gb, 1, none⟩)) A (qb KcT_fld_78_1 rfl rfl) λa A↦?_
 refine sdo A (qi M KcT_is1_51 rfl 0 rfl rfl) λa A↦?_
 refine sdm A λa A↦?_
 refine qkj (k := 1) (q := bs.length) (m := s.size) (xs := Lib.byteCells bs) (news := Lib.strCells s) (L' := fun v5 => (.obj gb (.cells #[.pointer (some ⟨gb, 0, none⟩), v] 78) :: .row BY 1 (v5) ((bs.length + s.size)) ((Lib.byteCells bs ++ Lib.strCells s)) :: T)) A rfl rfl rfl (qbf Tryz.underlying51 Tryz.underlying9 (by kernel_rfl) M 1 rfl rfl rfl hroom) (fun _ => rfl) ?_
 intro v5 w6 M a A
 obtain ⟨so7, ca8, rfl⟩ := vz (M.has 1 rfl)
 refine sdo A (jc rfl) λa A↦?_
 refine sdo (v := .pointer (some ⟨gb, 1, none⟩)) A (qb KcT_fld_78_1 rfl rfl) λa A↦?_
 refine qw (us := [.pointer (some ⟨gb, 0, none⟩), .slice so7 (bs.length + s.size) ca8]) (L' := (.obj gb (.cells #[.pointer (some ⟨gb, 0, none⟩), .slice so7 (bs.length + s.size) ca8] 78) :: .row BY 1 (.slice so7 (bs.length + s.size) ca8) ((bs.length + s.size)) ((Lib.byteCells bs ++ Lib.strCells s)) :: T)) A M rfl rfl (qj rfl rfl rfl (by kernel_rfl) M 0 rfl rfl rfl) 0 rfl rfl rfl ?_
 intro w9 M
 refine qa (hK4 _ _ (wsk fun K10 hK10 => wrl (sdm A λa A↦?_)))
 refine sdo (v := .int .i64 (((s.size : Nat) : Int))) A (vy rfl (len_str Tryz.underlying9)) λa A↦?_
 iterate 2 refine sda A λa A↦?_
 refine qa (hK10 _ _ (wp_ret (hret _ _ (en2 A rfl (qe rfl) (qe rfl) ?_))))
 refine ⟨rfl, .slice so7 (bs.length + s.size) ca8, ?_⟩
 rw [← row_str, Lib.byteCells_append, ← qhg]
 exact M
theorem string2_any {w0 w : World} {gb : Nat} {p v : Value} {bs : List UInt8} {T : List Ck} (M : Mg w0 w (.obj gb (.cells #[p, v] 78) :: .row BY 1 v bs.length (Lib.byteCells bs) :: T)) (h0 : bs ≠ []) (hmax : bs.length ≤ 9223372036854775807) : Calls Tryz.prog 49 #[.pointer (some ⟨gb, 0, none⟩)] w fun e w' => e = .returned (.string ⟨bs.toArray⟩) ∧ Below w0.heap.size w w' := by
 have hown := M.has 1 rfl
 have hb := M.obj 0 rfl
 have hl0 : bs.length ≠ 0 := by simpa using h0
 rcases hown.2 with ⟨_, hz⟩ | ⟨g, cap, cur, rfl, hbg, hg, hnc, hcm, hcs, htake⟩
 ·
  exact absurd hz hl0
 ·
  exact str2_pos h0 hb hg hnc hmax hbg (fun j x hx => by
   have h9 := hown.cells (g := g) rfl j (.int .u8 x.toNat) (by simp [Lib.byteCells, hx])
   rw [jg, Nat.zero_add] at h9
   exact h9) (by simp at hcs; omega)
theorem wstring_any {w0 w : World} {gw : Nat} {p v : Value} {pl : Bool} {bs : List UInt8} {T : List Ck} (M : Mg w0 w (.obj gw (.cells #[p, v, .bool pl] 135) :: .row BY 1 v bs.length (Lib.byteCells bs) :: T)) (h0 : bs ≠ []) (hmax : bs.length ≤ 9223372036854775807) : Calls Tryz.prog 49 #[.pointer (some ⟨gw, 0, none⟩)] w fun e w' => e = .returned (.string ⟨bs.toArray⟩) ∧ Below w0.heap.size w w' := by
 have hown := M.has 1 rfl
 have hb := M.obj 0 rfl
 have hl0 : bs.length ≠ 0 := by simpa using h0
 rcases hown.2 with ⟨_, hz⟩ | ⟨g, cap, cur, rfl, hbg, hg, hnc, hcm, hcs, htake⟩
 ·
  exact absurd hz hl0
 ·
  exact str_pos h0 hb hg hnc hmax hbg (fun j x hx => by
   have h9 := hown.cells (g := g) rfl j (.int .u8 x.toNat) (by simp [Lib.byteCells, hx])
   rw [jg, Nat.zero_add] at h9
   exact h9) (by simp at hcs; omega)
theorem wsym_t {w0 w : World} {gw : Nat} {p v : Value} {bs : List UInt8} {T : List Ck} (hp : p = .pointer none ∨ p = .pointer (some ⟨gw, 0, none⟩)) (hM0 : Mg w0 w (.obj gw (.cells #[p, v, .bool true] 135) :: .row BY 1 v bs.length (Lib.byteCells bs) :: T)) {s : ByteArray} (hroom : bs.length + s.size ≤ 140737488355328) : Calls Tryz.prog 127 #[.pointer (some ⟨gw, 0, none⟩), .string s] w fun e w' => e = .returned (.tuple #[]) ∧ ∃ v', Mg w0 w' (.obj gw (.cells #[.pointer (some ⟨gw, 0, none⟩), v', .bool true] 135) :: .row BY 1 v' (bs ++ s.data.toList).length (Lib.byteCells (bs ++ s.data.toList)) :: T) := by
 have M : Mg w0 w (.obj gw (.cells #[p, v, .bool true] 135) :: .row BY 1 (v) bs.length ((Lib.byteCells bs)) :: T) := hM0
 refine qr (l := [(0, .pointer (some ⟨gw, 0, none⟩)), (1, .string s)]) Tryz.func127 rfl Tryz.ntmps127 rfl rfl ?_
 intro Q hret hnorm hP a A
 refine wp_block (wsk fun K1 hK1 => wrl (sdm A λa A↦?_))
 refine sdo A (jc rfl) λa A↦?_
 refine sdo (v := .pointer (some ⟨gw, 2, none⟩)) A (qb KcT_fld_135_1 rfl rfl) λa A↦?_
 refine sdo A (qi M KcT_is1_4 rfl 0 rfl rfl) λa A↦?_
 refine sdm A λa A↦?_
 iterate 2 refine qt A rfl rfl rfl λa A↦?_
 refine sdk (v := .bool true) A λa A↦?_
 refine sdm A λa A↦?_
 iterate 2 refine qt A rfl rfl rfl λa A↦?_
 refine sdk (v := .bool true) A λa A↦?_
 refine sdm A λa A↦?_
 iterate 2 refine qt A rfl rfl rfl λa A↦?_
 refine sdk (v := .bool true) A λa A↦?_
 refine sda A λa A↦?_
 refine qa (hK1 _ _ (wp_cond_true (A.ev rfl) ?_))
 refine wrl (sdm A λa A↦?_)
 refine sdo A (jc rfl) λa A↦?_
 refine sdo (v := .pointer (some ⟨gw, 0, none⟩)) A (qb KcT_fld_135_0 rfl rfl) λa A↦?_
 refine sdm A λa A↦?_
 refine sct A (ef rfl rfl) (wstr_any (pl := true) hp M hroom) ?_
 rintro _ w4 ⟨rfl, v2, hM3⟩
 replace M : Mg w0 w4 (.obj gw (.cells #[.pointer (some ⟨gw, 0, none⟩), v2, .bool true] 135) :: .row BY 1 (v2) ((bs ++ s.data.toList).length) ((Lib.byteCells (bs ++ s.data.toList))) :: T) := hM3
 refine ⟨_, rfl, ?_⟩
 intro a A
 refine qa (hnorm _ _ (kl (v := .tuple #[]) A rfl .nil rfl ?_))
 exact ⟨rfl, _, M⟩
theorem wquo_t {w0 w : World} {gw : Nat} {p v : Value} {bs : List UInt8} {T : List Ck} (hp : p = .pointer none ∨ p = .pointer (some ⟨gw, 0, none⟩)) (hM0 : Mg w0 w (.obj gw (.cells #[p, v, .bool true] 135) :: .row BY 1 v bs.length (Lib.byteCells bs) :: T)) {s : ByteArray} (hroom : bs.length + s.size ≤ 140737488355328) : Calls Tryz.prog 126 #[.pointer (some ⟨gw, 0, none⟩), .string s] w fun e w' => e = .returned (.tuple #[]) ∧ ∃ v', Mg w0 w' (.obj gw (.cells #[.pointer (some ⟨gw, 0, none⟩), v', .bool true] 135) :: .row BY 1 v' (bs ++ s.data.toList).length (Lib.byteCells (bs ++ s.data.toList)) :: T) := by
 have M : Mg w0 w (.obj gw (.cells #[p, v, .bool true] 135) :: .row BY 1 (v) bs.length ((Lib.byteCells bs)) :: T) := hM0
 refine qr (l := [(0, .pointer (some ⟨gw, 0, none⟩)), (1, .string s)]) Tryz.func126 rfl Tryz.ntmps126 rfl rfl ?_
 intro Q hret hnorm hP a A
 refine wsk fun K1 hK1 => wsk fun K2 hK2 => wrl (sdm A λa A↦?_)
 refine sdo A (jc rfl) λa A↦?_
 refine sdo (v := .pointer (some ⟨gw, 2, none⟩)) A (qb KcT_fld_135_1 rfl rfl) λa A↦?_
 refine sdo A (qi M KcT_is1_4 rfl 0 rfl rfl) λa A↦?_
 refine qa (hK2 _ _ (wp_cond_true (A.ev rfl) ?_))
 refine wsk fun K3 hK3 => wrl (sdm A λa A↦?_)
 refine sdo A (jc rfl) λa A↦?_
 refine sdo (v := .pointer (some ⟨gw, 0, none⟩)) A (qb KcT_fld_135_0 rfl rfl) λa A↦?_
 refine sdm A λa A↦?_
 refine sct A (ef rfl rfl) (wstr_any (pl := true) hp M hroom) ?_
 rintro _ w6 ⟨rfl, v4, hM5⟩
 replace M : Mg w0 w6 (.obj gw (.cells #[.pointer (some ⟨gw, 0, none⟩), v4, .bool true] 135) :: .row BY 1 (v4) ((bs ++ s.data.toList).length) ((Lib.byteCells (bs ++ s.data.toList))) :: T) := hM5
 refine ⟨_, rfl, ?_⟩
 intro a A
 refine qa (hK3 _ _ (wp_ret (hret _ _ (kl (v := .tuple #[]) A rfl .nil rfl ?_))))
 exact ⟨rfl, _, M⟩
theorem wdat_t {w0 w : World} {gw : Nat} {p v : Value} {bs : List UInt8} {T : List Ck} (hp : p = .pointer none ∨ p = .pointer (some ⟨gw, 0, none⟩)) (hM0 : Mg w0 w (.obj gw (.cells #[p, v, .bool true] 135) :: .row BY 1 v bs.length (Lib.byteCells bs) :: T)) {t : Dt} (hk : t.d.k = 5 ∨ t.d.k = 6) (hroom : bs.length + t.d.s.size ≤ 140737488355328) : Calls Tryz.prog 102 #[.pointer (some ⟨gw, 0, none⟩), .agg (t.d.cells t.ts.length).toArray] w fun e w' => e = .returned (.tuple #[]) ∧ ∃ v', Mg w0 w' (.obj gw (.cells #[.pointer (some ⟨gw, 0, none⟩), v', .bool true] 135) :: .row BY 1 v' (bs ++ t.d.s.data.toList).length (Lib.byteCells (bs ++ t.d.s.data.toList)) :: T) := by
 have M : Mg w0 w (.obj gw (.cells #[p, v, .bool true] 135) :: .row BY 1 (v) bs.length ((Lib.byteCells bs)) :: T) := hM0
 refine qr (l := [(0, .pointer (some ⟨gw, 0, none⟩)), (1, .agg (t.d.cells t.ts.length).toArray)]) Tryz.func102 rfl Tryz.ntmps102 rfl rfl ?_
 intro Q hret hnorm hP a A
 refine wsk fun K1 hK1 => wrl (zg (vs := (t.d.cells t.ts.length)) (t := 53) A M rfl rfl rfl pg (zd rfl rfl) (by decide) ?_)
 intro g2 w3 M a A
 refine qa (hK1 _ _ (wsk fun K4 hK4 => wrl (sdo (v := .pointer (some ⟨g2, 0, none⟩)) A (qb KcT_fld_53_0 rfl rfl) λa A↦?_)))
 refine sdo A (qi M KcT_is1_3 rfl 0 rfl rfl) λa A↦?_
 refine qa (hK4 _ _ (wp_block (wsk fun K5 hK5 => wrl (sdo (v := .bool false) A (qg rfl rfl (fun w => (qx w).trans (by rw [show ((t.d.k == 1)) = false from (beq_eq_false_iff_ne.2 (by omega))]))) λa A↦?_))))
 refine sda A λa A↦?_
 refine qa (hK5 _ _ (wp_cond_false (A.ev rfl) ?_))
 refine wsk fun K6 hK6 => wrl (sdo (v := .bool false) A (qg rfl rfl (fun w => (qx w).trans (by rw [show ((t.d.k == 2)) = false from (beq_eq_false_iff_ne.2 (by omega))]))) λa A↦?_)
 refine sda A λa A↦?_
 refine qa (hK6 _ _ (wp_cond_false (A.ev rfl) ?_))
 refine wsk fun K7 hK7 => wrl (sdo (v := .bool false) A (qg rfl rfl (fun w => (qx w).trans (by rw [show ((t.d.k == 3)) = false from (beq_eq_false_iff_ne.2 (by omega))]))) λa A↦?_)
 refine sda A λa A↦?_
 refine qa (hK7 _ _ (wp_cond_false (A.ev rfl) ?_))
 refine wsk fun K8 hK8 => wrl (sdo (v := .bool false) A (qg rfl rfl (fun w => (qx w).trans (by rw [show ((t.d.k == 4)) = false from (beq_eq_false_iff_ne.2 (by omega))]))) λa A↦?_)
 refine sda A λa A↦?_
 refine qa (hK8 _ _ (wp_cond_false (A.ev rfl) ?_))
 refine wsk fun K9 hK9 => wrl ?_
 rcases tf ((t.d.k == 5)) with hb10 | hb10
 ·
  have hb10' := eq_of_beq hb10
  refine sdc A qx hb10 λa A↦?_
  refine sda A λa A↦?_
  refine qa (hK9 _ _ (wp_cond_true (A.ev rfl) ?_))
  refine wrl (sdm A λa A↦?_)
  refine sdo (v := .pointer (some ⟨g2, 8, none⟩)) A (qb KcT_fld_53_3 rfl rfl) λa A↦?_
  refine sdo A (qi M KcT_is1_9 rfl 0 rfl rfl) λa A↦?_
  refine sct A (ef rfl rfl) (wquo_t hp (toW (X := [.obj g2 (.cells (t.d.cells t.ts.length).toArray 53)]) M) hroom) ?_
  rintro _ w13 ⟨rfl, v11, hM12⟩
  replace M : Mg w0 w13 (.obj g2 (.cells (t.d.cells t.ts.length).toArray 53) :: .obj gw (.cells #[.pointer (some ⟨gw, 0, none⟩), v11, .bool true] 135) :: .row BY 1 (v11) ((bs ++ t.d.s.data.toList).length) ((Lib.byteCells (bs ++ t.d.s.data.toList))) :: T) := (fromW (X := [.obj g2 (.cells (t.d.cells t.ts.length).toArray 53)]) hM12)
  refine ⟨_, rfl, ?_⟩
  intro a A
  refine qa (hnorm _ _ (kl (v := .tuple #[]) A rfl .nil rfl ?_))
  exact ⟨rfl, _, M.sub (cn (.refl _))⟩
 ·
  have hb10' := ne_of_beq_false hb10
  refine sdc A qx hb10 λa A↦?_
  refine sda A λa A↦?_
  refine qa (hK9 _ _ (wp_cond_false (A.ev rfl) ?_))
  refine wsk fun K14 hK14 => wrl (sdo (v := .bool true) A (qg rfl rfl (fun w => (qx w).trans (by rw [show ((t.d.k == 6)) = true from (beq_iff_eq.2 (by omega))]))) λa A↦?_)
  refine sda A λa A↦?_
  refine qa (hK14 _ _ (wp_cond_true (A.ev rfl) ?_))
  refine wrl (sdm A λa A↦?_)
  refine sdo (v := .pointer (some ⟨g2, 8, none⟩)) A (qb KcT_fld_53_3 rfl rfl) λa A↦?_
  refine sdo A (qi M KcT_is1_9 rfl 0 rfl rfl) λa A↦?_
  refine sct A (ef rfl rfl) (wsym_t hp (toW (X := [.obj g2 (.cells (t.d.cells t.ts.length).toArray 53)]) M) hroom) ?_
  rintro _ w17 ⟨rfl, v15, hM16⟩
  replace M : Mg w0 w17 (.obj g2 (.cells (t.d.cells t.ts.length).toArray 53) :: .obj gw (.cells #[.pointer (some ⟨gw, 0, none⟩), v15, .bool true] 135) :: .row BY 1 (v15) ((bs ++ t.d.s.data.toList).length) ((Lib.byteCells (bs ++ t.d.s.data.toList))) :: T) := (fromW (X := [.obj g2 (.cells (t.d.cells t.ts.length).toArray 53)]) hM16)
  refine ⟨_, rfl, ?_⟩
  intro a A
  refine qa (hnorm _ _ (kl (v := .tuple #[]) A rfl .nil rfl ?_))
  exact ⟨rfl, _, M.sub (cn (.refl _))⟩
theorem wtext_t {w : World} {t : Dt} (ht : t.rd w) (hT : Tabs8 w) (hs : qz qh t.tr = true) (hk : t.d.k = 5 ∨ t.d.k = 6) (hne : t.d.s.size ≠ 0) (hz : t.d.s.size ≤ 1000000000) : Calls Tryz.prog 86 #[.agg (t.d.cells t.ts.length).toArray, .bool true] w fun e w' => e = .returned (.tuple #[.string ⟨t.d.s.data.toList.toArray⟩, .int .i64 0]) ∧ Below w.heap.size w w' := by
 have M : Mg w w ([]) := Mg.start w
 refine qr (l := [(0, .agg (t.d.cells t.ts.length).toArray), (1, .bool true)]) Tryz.func86 rfl Tryz.ntmps86 rfl rfl ?_
 intro Q hret hnorm hP a A
 refine wsk fun K1 hK1 => wrl (zg (vs := (t.d.cells t.ts.length)) (t := 53) A M rfl rfl rfl pg (zd rfl rfl) (by decide) ?_)
 intro g2 w3 M a A
 iterate 2 refine sda A λa A↦?_
 refine qa (hK1 _ _ (wsk fun K4 hK4 => wsk fun K5 hK5 => wrl (sdo A (za M KcT_isS_53 rfl 0 rfl (cs := (t.d.cells t.ts.length)) rfl rfl) λa A↦?_)))
 refine gcl A M (ef rfl rfl) ((hs ▸ sound_any (t := t) (Dt.keep M.bel _ ht) (hT.below M.bel))) fun w7 hb6 M a A => ?_
 refine sdo (v := .bool false) A (zb rfl zn) λa A↦?_
 refine qa (hK5 _ _ (wp_cond_false (A.ev rfl) ?_))
 refine wp_skip (hK4 _ _ (wsk fun K8 hK8 => wrl (sdm A λa A↦?_)))
 refine sdo (v := .agg #[.pointer none, .slice none 0 0, .bool true]) A (qn rfl (fun w => by kernel_rfl)) λa A↦?_
 refine zg (vs := [.pointer none, .slice none 0 0, .bool false]) (t := 135) A M rfl rfl rfl pg (qk (z := .agg #[.pointer none, .slice none 0 0, .bool false]) (by kernel_rfl) rfl) (by decide) ?_
 intro g9 w10 M a A
 refine qw (us := [.pointer none, .slice none 0 0, .bool true]) (L' := (.obj g9 (.cells #[.pointer none, .slice none 0 0, .bool true] 135) :: .obj g2 (.cells (t.d.cells t.ts.length).toArray 53) :: [])) A M rfl rfl (qj rfl rfl rfl (by kernel_rfl) M 0 rfl rfl rfl) 0 rfl rfl rfl ?_
 intro w11 M
 refine qa (hK8 _ _ (wsk fun K12 hK12 => ?_))
 have hMn := Mg.addNil M (qf (by simp) (qf (by simp) (qp qy)))
 obtain ⟨gw, hgw⟩ : ∃ x, x = g9 := ⟨_, rfl⟩
 rw [← hgw] at A hMn
 replace M : Mg w w11 (.obj gw (.cells #[.pointer none, .slice none 0 0, .bool true] 135) :: .row BY 1 (.slice none 0 0) 0 ([]) :: .obj g2 (.cells (t.d.cells t.ts.length).toArray 53) :: []) := hMn.perm (.swap _ _ _)
 refine wrl (sdo A (za M KcT_isS_53 rfl 2 rfl (cs := (t.d.cells t.ts.length)) rfl rfl) λa A↦?_)
 refine sct A (ef rfl rfl) (wdat_t (bs := []) (T := [.obj g2 (.cells (t.d.cells t.ts.length).toArray 53)]) (.inl rfl) M hk (by rw [List.length_nil]; omega)) ?_
 rintro _ w13 ⟨rfl, v9, hM9⟩
 replace M : Mg w w13 (.obj gw (.cells #[.pointer (some ⟨gw, 0, none⟩), v9, .bool true] 135) :: .row BY 1 (v9) (([] ++ t.d.s.data.toList).length) ((Lib.byteCells ([] ++ t.d.s.data.toList))) :: .obj g2 (.cells (t.d.cells t.ts.length).toArray 53) :: []) := hM9
 refine ⟨_, rfl, ?_⟩
 intro a A
 refine qa (hK12 _ _ (wsk fun K14 hK14 => wrl (sdo (v := .pointer (some ⟨gw, 0, none⟩)) A (qb KcT_fld_135_0 rfl rfl) λa A↦?_)))
 refine sct A (ef rfl rfl) (wstring_any (bs := [] ++ t.d.s.data.toList) M (by rw [List.nil_append]; exact fun e => hne (by rw [← jq, e]; rfl)) (by rw [List.nil_append, jq]; omega)) ?_
 rintro _ w15 ⟨rfl, hbs⟩
 replace M : Mg w w15 ([]) := ⟨M.bel.trans hbs, by simp, .nil⟩
 refine ⟨_, rfl, ?_⟩
 intro a A
 iterate 2 refine sda A λa A↦?_
 refine qa (hK14 _ _ (wp_ret (hret _ _ (en2 A rfl (qe rfl) (qe rfl) ?_))))
 exact ⟨rfl, M.bel⟩
theorem display_t {w : World} {t : Dt} (ht : t.rd w) (hT : Tabs8 w) (hs : qz qh t.tr = true) (hk : t.d.k = 5 ∨ t.d.k = 6) (hne : t.d.s.size ≠ 0) (hz : t.d.s.size ≤ 1000000000) : Calls Tryz.prog 70 #[.agg (t.d.cells t.ts.length).toArray] w fun e w' => e = .returned (.tuple #[.string ⟨t.d.s.data.toList.toArray⟩, .int .i64 0]) ∧ Below w.heap.size w w' := by
 have M : Mg w w ([]) := Mg.start w
 refine qr (l := [(0, .agg (t.d.cells t.ts.length).toArray)]) Tryz.func70 rfl Tryz.ntmps70 rfl rfl ?_
 intro Q hret hnorm hP a A
 refine wsk fun K1 hK1 => wrl (zg (vs := (t.d.cells t.ts.length)) (t := 53) A M rfl rfl rfl pg (zd rfl rfl) (by decide) ?_)
 intro g2 w3 M a A
 iterate 2 refine sda A λa A↦?_
 refine qa (hK1 _ _ (wsk fun K4 hK4 => wrl (sdo A (za M KcT_isS_53 rfl 0 rfl (cs := (t.d.cells t.ts.length)) rfl rfl) λa A↦?_)))
 refine gcl A M (ef rfl rfl) (wtext_t (Dt.keep M.bel _ ht) (hT.below M.bel) hs hk hne hz) fun w5 hbt M a A => ?_
 iterate 2 refine sdo A (ql (vs := [.string (⟨t.d.s.data.toList.toArray⟩), .int .i64 0]) rfl rfl) λa A↦?_
 iterate 2 refine sda A λa A↦?_
 refine qa (hK4 _ _ (wp_ret (hret _ _ (en2 A rfl (qe rfl) (qe rfl) ?_))))
 exact ⟨rfl, M.bel⟩
theorem KcF_is1_3 : Is1 Tryz.prog 3 := ⟨⟨_, Tryz.underlying3, rfl⟩, by kernel_rfl⟩
theorem KcF_is1_39 : Is1 Tryz.prog 39 := ⟨⟨_, Tryz.underlying39, rfl⟩, by kernel_rfl⟩
theorem KcF_is1_9 : Is1 Tryz.prog 9 := ⟨⟨_, Tryz.underlying9, rfl⟩, by kernel_rfl⟩
theorem KcF_fld_41_0 : FieldAt Tryz.prog 41 0 0 := ⟨_, _, Tryz.underlying41, rfl, rfl, by kernel_rfl⟩
theorem KcF_fld_41_1 : FieldAt Tryz.prog 41 1 1 := ⟨_, _, Tryz.underlying41, rfl, rfl, by kernel_rfl⟩
theorem KcF_fld_61_0 : FieldAt Tryz.prog 61 0 0 := ⟨_, _, Tryz.underlying61, rfl, rfl, by kernel_rfl⟩
theorem KcF_isS_53 : IsS Tryz.prog 53 11 := ⟨⟨_, Tryz.underlying53⟩, by kernel_rfl⟩
theorem headOf_any {w : World} {so : Option Addr} {ca : Nat} {ps : List Sp} (hPs : PR w so ps) (hl : ps.length ≤ 1000000000) (hck : ckC (ps.map Sp.k) = 0) : Calls Tryz.prog 44 #[.slice so ps.length ca] w fun e w' => e = .returned (.string (kat (hdT (ps.map Sp.k))).nm) ∧ Below w.heap.size w w' := by
 have M : Mg w w ([]) := Mg.start w
 refine qr (l := [(0, .slice so ps.length ca)]) Tryz.func44 rfl Tryz.ntmps44 rfl rfl ?_
 intro Q hret hnorm hP a A
 refine wsk fun K1 hK1 => wrl (sda A λa A↦?_)
 refine qa (hK1 _ _ (wsk fun K2 hK2 => wrl (sda A λa A↦?_)))
 refine qa (hK2 _ _ (wsk fun K3 hK3 => wsk fun K4 hK4 => wrl (sdm A λa A↦?_)))
 rcases tf (decide (0 ≤ fdI (ps.map Sp.k) 3)) with hb5 | hb5
 ·
  have hb5' := of_decide_eq_true hb5
  refine sct A (ef rfl rfl) (qad (hPs.below M.bel) hl (qec hck) hb5) ?_
  rintro _ w7 ⟨x9, rfl, ⟨ix9, mx9, rx9⟩, hb6⟩
  replace rx9 := hPs.own _ mx9
  replace M := M.call hb6
  refine ⟨_, rfl, ?_⟩
  intro a A
  refine sdm A λa A↦?_
  iterate 2 refine sdo A (ql (vs := [.agg x9.c.toArray, .bool true]) rfl rfl) λa A↦?_
  refine zg (vs := zk.c) (t := 41) A M rfl rfl rfl pg (qk (z := .agg zk.c.toArray) (by kernel_rfl) rfl) (by decide) ?_
  intro g8 w9 M a A
  refine qw (us := x9.c) (L' := (.obj g8 (.cells x9.c.toArray 41) :: [])) A M rfl rfl (qj rfl rfl rfl (by kernel_rfl) M 0 rfl rfl rfl) 0 rfl rfl rfl ?_
  intro w10 M
  refine sda A λa A↦?_
  refine qa (hK4 _ _ (wsk fun K11 hK11 => wrl (sdm A λa A↦?_)))
  refine qa (hK11 _ _ (wp_cond_true (A.ev rfl) ?_))
  refine wrl (sdo (v := .pointer (some ⟨g8, 0, none⟩)) A (qb KcF_fld_41_0 rfl rfl) λa A↦?_)
  refine sdo A (qi M KcF_is1_3 rfl 0 rfl rfl) λa A↦?_
  refine sda A λa A↦?_
  refine qa (hK3 _ _ (wsk fun K12 hK12 => wrl (sdm A λa A↦?_)))
  refine gcl A M (ef rfl rfl) (kq (qec hck _ mx9)) fun w14 hb13 M a A => ?_
  refine sdm A λa A↦?_
  iterate 2 refine sdo A (ql (vs := [.agg (kat x9.ty).c.toArray, .int .i64 0]) rfl rfl) λa A↦?_
  refine zg (vs := ji.c) (t := 61) A M rfl rfl rfl pg (qk (z := .agg ji.c.toArray) (by kernel_rfl) rfl) (by decide) ?_
  intro g15 w16 M a A
  refine qw (us := (kat x9.ty).c) (L' := (.obj g15 (.cells (kat x9.ty).c.toArray 61) :: .obj g8 (.cells x9.c.toArray 41) :: [])) A M rfl rfl (qj rfl rfl rfl (by kernel_rfl) M 0 rfl rfl rfl) 0 rfl rfl rfl ?_
  intro w17 M
  refine sda A λa A↦?_
  refine qa (hK12 _ _ (wsk fun K18 hK18 => wrl (sdo (v := .pointer (some ⟨g15, 0, none⟩)) A (qb KcF_fld_61_0 rfl rfl) λa A↦?_)))
  refine sdo A (qi M KcF_is1_9 rfl 0 rfl rfl) λa A↦?_
  refine sda A λa A↦?_
  refine qa (hK18 _ _ (wp_ret (hret _ _ (en1 A rfl (qe rfl) ?_))))
  exact ⟨by rw [hdT_hit (of_decide_eq_true hb5) (yj ix9)] <;> rfl, M.bel⟩
 ·
  have hb5' := of_decide_eq_false hb5
  refine gcl A M (ef rfl rfl) (qeg (hPs.below M.bel) hl (qec hck) hb5) fun w20 hb19 M a A => ?_
  refine sdm A λa A↦?_
  iterate 2 refine sdo A (ql (vs := [.agg zk.c.toArray, .bool false]) rfl rfl) λa A↦?_
  refine zg (vs := zk.c) (t := 41) A M rfl rfl rfl pg (qk (z := .agg zk.c.toArray) (by kernel_rfl) rfl) (by decide) ?_
  intro g21 w22 M a A
  refine qw (us := zk.c) (L' := (.obj g21 (.cells zk.c.toArray 41) :: [])) A M rfl rfl (qj rfl rfl rfl (by kernel_rfl) M 0 rfl rfl rfl) 0 rfl rfl rfl ?_
  intro w23 M
  refine sda A λa A↦?_
  refine qa (hK4 _ _ (wsk fun K24 hK24 => wrl (sdm A λa A↦?_)))
  refine qa (hK24 _ _ (wp_cond_false (A.ev rfl) ?_))
  refine wp_skip (hK3 _ _ (wsk fun K25 hK25 => wrl (sdm A λa A↦?_)))
  refine gcl A M (ef rfl rfl) (kq (t := 0) rfl) fun w27 hb26 M a A => ?_
  refine sdm A λa A↦?_
  iterate 2 refine sdo A (ql (vs := [.agg (kat 0).c.toArray, .int .i64 0]) rfl rfl) λa A↦?_
  refine zg (vs := ji.c) (t := 61) A M rfl rfl rfl pg (qk (z := .agg ji.c.toArray) (by kernel_rfl) rfl) (by decide) ?_
  intro g28 w29 M a A
  refine qw (us := (kat 0).c) (L' := (.obj g28 (.cells (kat 0).c.toArray 61) :: .obj g21 (.cells zk.c.toArray 41) :: [])) A M rfl rfl (qj rfl rfl rfl (by kernel_rfl) M 0 rfl rfl rfl) 0 rfl rfl rfl ?_
  intro w30 M
  refine sda A λa A↦?_
  refine qa (hK25 _ _ (wsk fun K31 hK31 => wrl (sdo (v := .pointer (some ⟨g28, 0, none⟩)) A (qb KcF_fld_61_0 rfl rfl) λa A↦?_)))
  refine sdo A (qi M KcF_is1_9 rfl 0 rfl rfl) λa A↦?_
  refine sda A λa A↦?_
  refine qa (hK31 _ _ (wp_ret (hret _ _ (en1 A rfl (qe rfl) ?_))))
  exact ⟨by rw [hdT_no (of_decide_eq_false hb5)] <;> rfl, M.bel⟩
theorem fd_und {ps : List Sp} {t : Int} {x : Sp} (h : 0 ≤ fdI (ps.map Sp.k) t) (hx : ps[(fdI (ps.map Sp.k) t).toNat]? = some x) : ke x.ty t = true := by
 unfold fdI at h hx
 obtain ⟨s, h1, h2⟩ := ixG_at h
 rw [yj hx] at h1
 rw [← Option.some.inj h1] at h2
 exact h2
theorem fd_one {ps : List Sp} (hck : ckC (ps.map Sp.k) = 0) {t : Int} (ht : t = 1 ∨ t = 7 ∨ t = 8) {x : Sp} (h : 0 ≤ fdI (ps.map Sp.k) t) (hx : ps[(fdI (ps.map Sp.k) t).toNat]? = some x) (hm : x ∈ ps) : x.vs.length = 1 := by
 have h1 := qdi ((yk hck).2 _ (List.mem_map_of_mem hm))
 have h2 : yb x.ty = 1 := one_at h1.1 ht (fd_und h hx)
 have h3 := h1.2.1
 rw [show x.k.2.length = x.vs.length from List.length_map _, show x.k.1 = x.ty from rfl, h2] at h3
 omega
theorem qfc {w : World} {so : Option Addr} {ca : Nat} {ps : List Sp} (hPs : PR w so ps) (hl : ps.length ≤ 1000000000) (hck : ckC (ps.map Sp.k) = 0) {t : Int} (ht1 : t = 1 ∨ t = 7 ∨ t = 8) : Calls Tryz.prog 45 #[.slice so ps.length ca, .int .i64 t] w fun e w' => (∃ d1 : Dt, 0 ≤ fdI (ps.map Sp.k) t ∧ flT (ps.map Sp.k) t = some d1.tr ∧ d1.rd w ∧ (∃ p ∈ ps, d1 ∈ p.vs) ∧ e = .returned (.tuple #[.agg (d1.d.cells d1.ts.length).toArray, .bool true]) ∧ Below w.heap.size w w') ∨ (¬ 0 ≤ fdI (ps.map Sp.k) t ∧ e = .returned (.tuple #[.agg (qs.d.cells qs.ts.length).toArray, .bool false]) ∧ Below w.heap.size w w') := by
 have M : Mg w w ([]) := Mg.start w
 refine qr (l := [(0, .slice so ps.length ca), (1, .int .i64 t)]) Tryz.func45 rfl Tryz.ntmps45 rfl rfl ?_
 intro Q hret hnorm hP a A
 refine wsk fun K1 hK1 => wrl (zg (vs := (qs.d.cells qs.ts.length)) (t := 53) A M rfl rfl rfl pg (qk (z := .agg (qs.d.cells qs.ts.length).toArray) (by kernel_rfl) rfl) (by decide) ?_)
 intro g2 w3 M a A
 refine sda A λa A↦?_
 refine qa (hK1 _ _ (wsk fun K4 hK4 => wrl ?_))
 iterate 2 refine sdm A λa A↦?_
 rcases tf (decide (0 ≤ fdI (ps.map Sp.k) t)) with hb5 | hb5
 ·
  have hb5' := of_decide_eq_true hb5
  refine sct A (ef rfl rfl) (qad (hPs.below M.bel) hl (qec hck) hb5) ?_
  rintro _ w7 ⟨x9, rfl, ⟨ix9, mx9, rx9⟩, hb6⟩
  replace rx9 := hPs.own _ mx9
  replace M := M.call hb6
  refine ⟨_, rfl, ?_⟩
  intro a A
  refine sdm A λa A↦?_
  iterate 2 refine sdo A (ql (vs := [.agg x9.c.toArray, .bool true]) rfl rfl) λa A↦?_
  refine zg (vs := zk.c) (t := 41) A M rfl rfl rfl pg (qk (z := .agg zk.c.toArray) (by kernel_rfl) rfl) (by decide) ?_
  intro g8 w9 M a A
  refine qw (us := x9.c) (L' := (.obj g8 (.cells x9.c.toArray 41) :: .obj g2 (.cells (qs.d.cells qs.ts.length).toArray 53) :: [])) A M rfl rfl (qj rfl rfl rfl (by kernel_rfl) M 0 rfl rfl rfl) 0 rfl rfl rfl ?_
  intro w10 M
  refine sda A λa A↦?_
  refine qa (hK4 _ _ (wsk fun K11 hK11 => wsk fun K12 hK12 => wrl (sdm A λa A↦?_)))
  refine sdo (v := .bool false) A (zb rfl zn) λa A↦?_
  refine qa (hK12 _ _ (wp_cond_false (A.ev rfl) ?_))
  refine wp_skip (hK11 _ _ (wsk fun K13 hK13 => ?_))
  have hone := fd_one hck ht1 (of_decide_eq_true hb5) ix9 mx9
  refine wrl (sdo (v := .pointer (some ⟨g8, 1, none⟩)) A (qb KcF_fld_41_1 rfl rfl) λa A↦?_)
  refine sdo A (qi M KcF_is1_39 rfl 0 rfl rfl) λa A↦?_
  obtain ⟨tk14, btk14, otk14, itk14, mtk14, rtk14_, ltk14, Htk14⟩ := kidL rx9.v rx9.d (i := 0) (by omega)
  refine sdo (v := .pointer (some ⟨btk14, otk14 + 0 * 11, none⟩)) A (zp (k := 0) Tryz.underlying39 (by kernel_rfl) rfl rfl (by first | rfl | omega) ltk14 (by omega)) λa A↦?_
  refine sdo A (jp M Htk14 KcF_isS_53 rfl rfl) λa A↦?_
  refine qw (us := (tk14.d.cells tk14.ts.length)) (L' := (.obj g8 (.cells x9.c.toArray 41) :: .obj g2 (.cells (tk14.d.cells tk14.ts.length).toArray 53) :: [])) A M rfl rfl (qj rfl rfl rfl (by kernel_rfl) M 1 rfl rfl rfl) 1 rfl rfl rfl ?_
  intro w15 M
  refine sda A λa A↦?_
  refine qa (hK13 _ _ (wp_ret (hret _ _ (en2 A rfl (zr M KcF_isS_53 rfl 1 rfl (cs := [.int .i64 tk14.d.k, .int .i64 tk14.d.n, .bool tk14.d.y.q.b1, .slice tk14.d.y.o1 tk14.d.y.q.t1.length tk14.d.y.c1, .slice tk14.d.y.o2 tk14.d.y.q.q1.length tk14.d.y.c2, .bool tk14.d.y.q.b2, .slice tk14.d.y.o3 tk14.d.y.q.t2.length tk14.d.y.c3, .slice tk14.d.y.o4 tk14.d.y.q.q2.length tk14.d.y.c4, .string tk14.d.s, .slice tk14.d.ro tk14.d.rl.length tk14.d.rc, .slice tk14.d.lo tk14.ts.length tk14.d.lc]) rfl rfl) (qe rfl) ?_))))
  exact .inl ⟨tk14, of_decide_eq_true hb5, flT_hit (of_decide_eq_true hb5) (yj ix9) (show (x9.vs.map Dt.tr)[0]? = some tk14.tr by rw [List.getElem?_map, itk14]; rfl), rtk14_, ⟨x9, mx9, mtk14⟩, rfl, M.bel⟩
 ·
  have hb5' := of_decide_eq_false hb5
  refine gcl A M (ef rfl rfl) (qeg (hPs.below M.bel) hl (qec hck) hb5) fun w17 hb16 M a A => ?_
  refine sdm A λa A↦?_
  iterate 2 refine sdo A (ql (vs := [.agg zk.c.toArray, .bool false]) rfl rfl) λa A↦?_
  refine zg (vs := zk.c) (t := 41) A M rfl rfl rfl pg (qk (z := .agg zk.c.toArray) (by kernel_rfl) rfl) (by decide) ?_
  intro g18 w19 M a A
  refine qw (us := zk.c) (L' := (.obj g18 (.cells zk.c.toArray 41) :: .obj g2 (.cells (qs.d.cells qs.ts.length).toArray 53) :: [])) A M rfl rfl (qj rfl rfl rfl (by kernel_rfl) M 0 rfl rfl rfl) 0 rfl rfl rfl ?_
  intro w20 M
  refine sda A λa A↦?_
  refine qa (hK4 _ _ (wsk fun K21 hK21 => wsk fun K22 hK22 => wrl (sdm A λa A↦?_)))
  refine sdo (v := .bool true) A (zb rfl zn) λa A↦?_
  refine qa (hK22 _ _ (wp_cond_true (A.ev rfl) ?_))
  refine wsk fun K23 hK23 => wrl (sdo (v := .agg (qs.d.cells qs.ts.length).toArray) A (qn rfl (fun w => by kernel_rfl)) λa A↦?_)
  refine qw (us := (qs.d.cells qs.ts.length)) (L' := (.obj g18 (.cells zk.c.toArray 41) :: .obj g2 (.cells (qs.d.cells qs.ts.length).toArray 53) :: [])) A M rfl rfl (qj rfl rfl rfl (by kernel_rfl) M 1 rfl rfl rfl) 1 rfl rfl rfl ?_
  intro w24 M
  refine sda A λa A↦?_
  refine qa (hK23 _ _ (wp_ret (hret _ _ (en2 A rfl (zr M KcF_isS_53 rfl 1 rfl (cs := [.int .i64 0, .int .i64 0, .bool false, .slice none 0 0, .slice none 0 0, .bool false, .slice none 0 0, .slice none 0 0, .string (⟨#[]⟩), .slice none 0 0, .slice none 0 0]) rfl rfl) (qe rfl) ?_))))
  exact .inr ⟨of_decide_eq_false hb5, rfl, M.bel⟩
theorem kt {w : World} {so : Option Addr} {ca : Nat} {ps : List Sp} (hPs : PR w so ps) (hl : ps.length ≤ 1000000000) (hck : ckC (ps.map Sp.k) = 0) {t : Int} (ht1 : t = 1 ∨ t = 7 ∨ t = 8) (h : decide (0 ≤ fdI (ps.map Sp.k) t) = true) : Calls Tryz.prog 45 #[.slice so ps.length ca, .int .i64 t] w fun e w' => ∃ d1 : Dt, e = .returned (.tuple #[.agg (d1.d.cells d1.ts.length).toArray, .bool true]) ∧ (flT (ps.map Sp.k) t = some d1.tr ∧ d1.rd w ∧ ∃ p ∈ ps, d1 ∈ p.vs) ∧ Below w.heap.size w w' := by
 refine (qfc hPs hl hck ht1).mono ?_
 rintro e w' (⟨d1, _, h2, h3, h4, h5, h6⟩ | ⟨h0, _⟩)
 ·
  exact ⟨d1, h5, ⟨h2, h3, h4⟩, h6⟩
 ·
  exact absurd (of_decide_eq_true h) h0
theorem yq {w : World} {so : Option Addr} {ca : Nat} {ps : List Sp} (hPs : PR w so ps) (hl : ps.length ≤ 1000000000) (hck : ckC (ps.map Sp.k) = 0) {t : Int} (ht1 : t = 1 ∨ t = 7 ∨ t = 8) (h : decide (0 ≤ fdI (ps.map Sp.k) t) = false) : Calls Tryz.prog 45 #[.slice so ps.length ca, .int .i64 t] w fun e w' => e = .returned (.tuple #[.agg (qs.d.cells qs.ts.length).toArray, .bool false]) ∧ Below w.heap.size w w' := by
 refine (qfc hPs hl hck ht1).mono ?_
 rintro e w' (⟨d1, h0, _⟩ | ⟨_, h1, h2⟩)
 ·
  exact absurd h0 (of_decide_eq_false h)
 ·
  exact ⟨h1, h2⟩
theorem items2_any {w : World} {t : Dt} (ht : t.rd w) (hb : t.tr.bulk ≤ 300000000) (hT : Tabs8 w) : Calls Tryz.prog 71 #[.agg (t.d.cells t.ts.length).toArray] w fun e w' => ∃ so' ca' ys k, e = .returned (.tuple #[.slice so' (ys : List Dt).length ca', .int .i64 k]) ∧ ((ys.map Dt.tr, k) = ug t.tr ∧ Rt w' so' ys ∧ In (w.heap.size ≤ ·) so' ys ∧ (∀ x ∈ ys, x.rd w' ∧ x.at_ (w.heap.size ≤ ·))) ∧ Below w.heap.size w w' := by
 have M : Mg w w ([]) := Mg.start w
 refine qr (l := [(0, .agg (t.d.cells t.ts.length).toArray)]) Tryz.func71 rfl Tryz.ntmps71 rfl rfl ?_
 intro Q hret hnorm hP a A
 refine wsk fun K1 hK1 => wrl (zg (vs := (t.d.cells t.ts.length)) (t := 53) A M rfl rfl rfl pg (zd rfl rfl) (by decide) ?_)
 intro g2 w3 M a A
 iterate 2 refine sda A λa A↦?_
 refine qa (hK1 _ _ (wsk fun K4 hK4 => wrl (sdo A (za M KcF_isS_53 rfl 0 rfl (cs := (t.d.cells t.ts.length)) rfl rfl) λa A↦?_)))
 rcases tf (qz qh t.tr) with hb5 | hb5
 ·
  rcases tf ((jh t.tr).isSome) with hb7 | hb7
  ·
   refine sct A (ef rfl rfl) (items_some M.bel ht (by omega) (hT.below M.bel) hb5 hb7) ?_
   rintro _ w9 ⟨so7, ca7, ys, rfl, ⟨hy1, hy2, hy3⟩, hM7⟩
   have hyb := asList_bulk hy1
   replace M : Mg w w9 (.row 53 11 (.slice so7 ys.length ca7) ys.length (cellsOf ys) :: .obj g2 (.cells (t.d.cells t.ts.length).toArray 53) :: []) := (M.both hM7 (qf (by simp) (qp qy)) (qf (by simp) (qp qy)))
   refine ⟨_, rfl, ?_⟩
   intro a A
   refine sdm A λa A↦?_
   iterate 2 refine sdo A (ql (vs := [.slice so7 ys.length ca7, .int .i64 0]) rfl rfl) λa A↦?_
   iterate 2 refine sda A λa A↦?_
   refine qa (hK4 _ _ (wsk fun K10 hK10 => wsk fun K11 hK11 => wrl (sdm A λa A↦?_)))
   refine sdo (v := .bool false) A (qg rfl rfl (fun w => by kernel_rfl)) λa A↦?_
   refine qa (hK11 _ _ (wp_cond_false (A.ev rfl) ?_))
   refine wp_skip (hK10 _ _ (wsk fun K12 hK12 => wrl (sdm A λa A↦?_)))
   refine sct A (ef rfl rfl) (qab (fun t _ => xr t) (vg (M.has 0 rfl)).1 (fun t ht => Dt.keep M.bel _ (hy2 t ht)) (by omega)) ?_
   rintro _ w13 ⟨v8, us, rfl, ⟨hu1, hu2⟩, hM8⟩
   obtain ⟨so8, ca8, rfl⟩ := jr (hM8.has 0 rfl)
   have hR8 := (vg (hM8.has 0 rfl)).1
   have hI8 := uu (hM8.has 0 rfl) us
   have hz8 := M.bel.size
   replace M := M.call hM8.bel
   refine ⟨_, rfl, ?_⟩
   intro a A
   iterate 2 refine sda A λa A↦?_
   refine qa (hK12 _ _ (wp_ret (hret _ _ (en2 A rfl (qe rfl) (qe rfl) ?_))))
   exact ⟨so8, ca8, us, 0, rfl, ⟨by rw [qej hb5 hy1, hu1], hR8, hI8.mono (fun b hb => Nat.le_trans hz8 hb), fun x hx => ⟨(hu2 x hx).1, Dt.at_mono (fun b hb => Nat.le_trans hz8 hb.1) _ (hu2 x hx).2⟩⟩, M.bel⟩
  ·
   refine gcl A M (ef rfl rfl) (items_none M.bel ht (by omega) (hT.below M.bel) hb5 hb7) fun w15 hb14 M a A => ?_
   refine sdm A λa A↦?_
   iterate 2 refine sdo A (ql (vs := [.slice none 0 0, .int .i64 10]) rfl rfl) λa A↦?_
   iterate 2 refine sda A λa A↦?_
   refine qa (hK4 _ _ (wsk fun K16 hK16 => wsk fun K17 hK17 => wrl (sdm A λa A↦?_)))
   refine sdo (v := .bool true) A (qg rfl rfl (fun w => by kernel_rfl)) λa A↦?_
   refine qa (hK17 _ _ (wp_cond_true (A.ev rfl) ?_))
   refine wsk fun K18 hK18 => wrl (sdm A λa A↦?_)
   iterate 2 refine sda A λa A↦?_
   refine qa (hK18 _ _ (wp_ret (hret _ _ (en2 A rfl (qe rfl) (qe rfl) ?_))))
   exact ⟨none, 0, [], 10, rfl, ⟨(itemS_none hb5 (none_of hb7)).symm, (fun h => absurd rfl h), (fun h => absurd rfl h), (fun x h => by cases h)⟩, M.bel⟩
 ·
  refine gcl A M (ef rfl rfl) (items_bad M.bel ht (by omega) (hT.below M.bel) hb5) fun w20 hb19 M a A => ?_
  refine sdm A λa A↦?_
  iterate 2 refine sdo A (ql (vs := [.slice none 0 0, .int .i64 2]) rfl rfl) λa A↦?_
  iterate 2 refine sda A λa A↦?_
  refine qa (hK4 _ _ (wsk fun K21 hK21 => wsk fun K22 hK22 => wrl (sdm A λa A↦?_)))
  refine sdo (v := .bool true) A (qg rfl rfl (fun w => by kernel_rfl)) λa A↦?_
  refine qa (hK22 _ _ (wp_cond_true (A.ev rfl) ?_))
  refine wsk fun K23 hK23 => wrl (sdm A λa A↦?_)
  iterate 2 refine sda A λa A↦?_
  refine qa (hK23 _ _ (wp_ret (hret _ _ (en2 A rfl (qe rfl) (qe rfl) ?_))))
  exact ⟨none, 0, [], 2, rfl, ⟨(itemS_bad hb5).symm, (fun h => absurd rfl h), (fun h => absurd rfl h), (fun x h => by cases h)⟩, M.bel⟩
theorem qbi {w : World} {so : Option Addr} {ca : Nat} {ps : List Sp} (hPs : PR w so ps) (hl : ps.length ≤ 1000000000) (hck : ckC (ps.map Sp.k) = 0) (hB : PB ps) (hT : Tabs8 w) : Calls Tryz.prog 47 #[.slice so ps.length ca] w fun e w' => ∃ so' ca' ys, e = .returned (.slice so' (ys : List Dt).length ca') ∧ (ys.map Dt.tr = irT (ps.map Sp.k) ∧ Rt w' so' ys ∧ In (w.heap.size ≤ ·) so' ys ∧ (∀ x ∈ ys, x.rd w' ∧ x.at_ (w.heap.size ≤ ·))) ∧ Below w.heap.size w w' := by
 have M : Mg w w ([]) := Mg.start w
 refine qr (l := [(0, .slice so ps.length ca)]) Tryz.func47 rfl Tryz.ntmps47 rfl rfl ?_
 intro Q hret hnorm hP a A
 refine wsk fun K1 hK1 => wrl (sda A λa A↦?_)
 refine qa (hK1 _ _ (wsk fun K2 hK2 => wrl (sdm A λa A↦?_)))
 rcases tf (decide (0 ≤ fdI (ps.map Sp.k) 7)) with hb3 | hb3
 ·
  have hb3' := of_decide_eq_true hb3
  refine sct A (ef rfl rfl) (kt (hPs.below M.bel) hl hck (.inr (.inl rfl)) hb3) ?_
  rintro _ w5 ⟨d1, rfl, ⟨hfd1, -, hqd1⟩, hb4⟩
  have hrd1 : d1.rd w := (by obtain ⟨p9, hp9, hd9⟩ := hqd1; exact (hPs.own p9 hp9).d _ hd9)
  replace M := M.call hb4
  refine ⟨_, rfl, ?_⟩
  intro a A
  refine sdm A λa A↦?_
  iterate 2 refine sdo A (ql (vs := [.agg (d1.d.cells d1.ts.length).toArray, .bool true]) rfl rfl) λa A↦?_
  refine zg (vs := (qs.d.cells qs.ts.length)) (t := 53) A M rfl rfl rfl pg (qk (z := .agg (qs.d.cells qs.ts.length).toArray) (by kernel_rfl) rfl) (by decide) ?_
  intro g6 w7 M a A
  refine qw (us := (d1.d.cells d1.ts.length)) (L' := (.obj g6 (.cells (d1.d.cells d1.ts.length).toArray 53) :: [])) A M rfl rfl (qj rfl rfl rfl (by kernel_rfl) M 0 rfl rfl rfl) 0 rfl rfl rfl ?_
  intro w8 M
  refine sda A λa A↦?_
  refine qa (hK2 _ _ (wsk fun K9 hK9 => wsk fun K10 hK10 => wrl (sdm A λa A↦?_)))
  refine sdo (v := .bool false) A (zb rfl zn) λa A↦?_
  refine qa (hK10 _ _ (wp_cond_false (A.ev rfl) ?_))
  refine wp_skip (hK9 _ _ (wsk fun K11 hK11 => wrl (sdo A (za M KcF_isS_53 rfl 0 rfl (cs := (d1.d.cells d1.ts.length)) rfl rfl) λa A↦?_)))
  have hz9 := M.bel.size
  refine sct A (ef rfl rfl) (items2_any (Dt.keep M.bel _ hrd1) (by obtain ⟨p9, hp9, hd9⟩ := hqd1; have := ub hd9; have := hB p9 hp9; omega) (hT.below M.bel)) ?_
  rintro _ w13 ⟨so8, ca8, ys, k8, rfl, ⟨hi8, hR8, hI8, hD8⟩, hb12⟩
  replace M := M.call hb12
  refine ⟨_, rfl, ?_⟩
  intro a A
  refine sdm A λa A↦?_
  iterate 2 refine sdo A (ql (vs := [.slice so8 ys.length ca8, .int .i64 k8]) rfl rfl) λa A↦?_
  iterate 2 refine sda A λa A↦?_
  refine qa (hK11 _ _ (wsk fun K14 hK14 => wrl (sdm A λa A↦?_)))
  refine sda A λa A↦?_
  refine qa (hK14 _ _ (wp_ret (hret _ _ (en1 A rfl (qe rfl) ?_))))
  exact ⟨so8, ca8, ys, rfl, ⟨by unfold irT; rw [hfd1]; exact congrArg Prod.fst hi8, hR8, hI8.mono (fun b hb => Nat.le_trans hz9 hb), fun x hx => ⟨(hD8 x hx).1, Dt.at_mono (fun b hb => Nat.le_trans hz9 hb) _ (hD8 x hx).2⟩⟩, M.bel⟩
 ·
  have hb3' := of_decide_eq_false hb3
  refine gcl A M (ef rfl rfl) (yq (hPs.below M.bel) hl hck (.inr (.inl rfl)) hb3) fun w16 hb15 M a A => ?_
  refine sdm A λa A↦?_
  iterate 2 refine sdo A (ql (vs := [.agg (qs.d.cells qs.ts.length).toArray, .bool false]) rfl rfl) λa A↦?_
  refine zg (vs := (qs.d.cells qs.ts.length)) (t := 53) A M rfl rfl rfl pg (qk (z := .agg (qs.d.cells qs.ts.length).toArray) (by kernel_rfl) rfl) (by decide) ?_
  intro g17 w18 M a A
  refine qw (us := (qs.d.cells qs.ts.length)) (L' := (.obj g17 (.cells (qs.d.cells qs.ts.length).toArray 53) :: [])) A M rfl rfl (qj rfl rfl rfl (by kernel_rfl) M 0 rfl rfl rfl) 0 rfl rfl rfl ?_
  intro w19 M
  refine sda A λa A↦?_
  refine qa (hK2 _ _ (wsk fun K20 hK20 => wsk fun K21 hK21 => wrl (sdm A λa A↦?_)))
  refine sdo (v := .bool true) A (zb rfl zn) λa A↦?_
  refine qa (hK21 _ _ (wp_cond_true (A.ev rfl) ?_))
  refine wsk fun K22 hK22 => wrl (sda A λa A↦?_)
  refine qa (hK22 _ _ (wp_ret (hret _ _ (en1 A rfl (qe rfl) ?_))))
  exact ⟨none, 0, [], rfl, ⟨by unfold irT; rw [flT_no (of_decide_eq_false hb3)]; rfl, (fun h => absurd rfl h), (fun h => absurd rfl h), (fun x h => by cases h)⟩, M.bel⟩
theorem qhh {w : World} {t : Dt} {s : List UInt8} (hd : ∀ w1, Below w.heap.size w w1 → Calls Tryz.prog 70 #[.agg (t.d.cells t.ts.length).toArray] w1 fun e w2 => e = .returned (.tuple #[.string ⟨s.toArray⟩, .int .i64 0]) ∧ Below w1.heap.size w1 w2) : Calls Tryz.prog 46 #[.agg (t.d.cells t.ts.length).toArray] w fun e w' => e = .returned (.string ⟨s.toArray⟩) ∧ Below w.heap.size w w' := by
 have M : Mg w w ([]) := Mg.start w
 refine qr (l := [(0, .agg (t.d.cells t.ts.length).toArray)]) Tryz.func46 rfl Tryz.ntmps46 rfl rfl ?_
 intro Q hret hnorm hP a A
 refine wsk fun K1 hK1 => wrl (zg (vs := (t.d.cells t.ts.length)) (t := 53) A M rfl rfl rfl pg (zd rfl rfl) (by decide) ?_)
 intro g2 w3 M a A
 refine sda A λa A↦?_
 refine qa (hK1 _ _ (wsk fun K4 hK4 => wrl (sdo A (za M KcF_isS_53 rfl 0 rfl (cs := (t.d.cells t.ts.length)) rfl rfl) λa A↦?_)))
 refine gcl A M (ef rfl rfl) (hd _ M.bel) fun w5 hbt M a A => ?_
 refine sdm A λa A↦?_
 iterate 2 refine sdo A (ql (vs := [.string (⟨s.toArray⟩), .int .i64 0]) rfl rfl) λa A↦?_
 iterate 2 refine sda A λa A↦?_
 refine qa (hK4 _ _ (wsk fun K6 hK6 => wrl (sdm A λa A↦?_)))
 refine sda A λa A↦?_
 refine qa (hK6 _ _ (wp_ret (hret _ _ (en1 A rfl (qe rfl) ?_))))
 exact ⟨rfl, M.bel⟩
theorem written_any {w : World} {t : Dt} {s : List UInt8} (hd : ∀ w1, Below w.heap.size w w1 → Calls Tryz.prog 72 #[.agg (t.d.cells t.ts.length).toArray] w1 fun e w2 => e = .returned (.tuple #[.string ⟨s.toArray⟩, .int .i64 0]) ∧ Below w1.heap.size w1 w2) : Calls Tryz.prog 48 #[.agg (t.d.cells t.ts.length).toArray] w fun e w' => e = .returned (.string ⟨s.toArray⟩) ∧ Below w.heap.size w w' := by
 have M : Mg w w ([]) := Mg.start w
 refine qr (l := [(0, .agg (t.d.cells t.ts.length).toArray)]) Tryz.func48 rfl Tryz.ntmps48 rfl rfl ?_
 intro Q hret hnorm hP a A
 refine wsk fun K1 hK1 => wrl (zg (vs := (t.d.cells t.ts.length)) (t := 53) A M rfl rfl rfl pg (zd rfl rfl) (by decide) ?_)
 intro g2 w3 M a A
 refine sda A λa A↦?_
 refine qa (hK1 _ _ (wsk fun K4 hK4 => wrl (sdo A (za M KcF_isS_53 rfl 0 rfl (cs := (t.d.cells t.ts.length)) rfl rfl) λa A↦?_)))
 refine gcl A M (ef rfl rfl) (hd _ M.bel) fun w5 hbt M a A => ?_
 refine sdm A λa A↦?_
 iterate 2 refine sdo A (ql (vs := [.string (⟨s.toArray⟩), .int .i64 0]) rfl rfl) λa A↦?_
 iterate 2 refine sda A λa A↦?_
 refine qa (hK4 _ _ (wsk fun K6 hK6 => wrl (sdm A λa A↦?_)))
 refine sda A λa A↦?_
 refine qa (hK6 _ _ (wp_ret (hret _ _ (en1 A rfl (qe rfl) ?_))))
 exact ⟨rfl, M.bel⟩
theorem KcG_isS_53 : IsS Tryz.prog 53 11 := ⟨⟨_, Tryz.underlying53⟩, by kernel_rfl⟩
theorem qkc {bs l : List UInt8} (h1 : bs.length ≤ 1000000000) (h2 : l.length ≤ 2000000000) : bs.length + l.length ≤ 140737488355328 := by omega
theorem fm_cnt {g : Tr → List UInt8} : ∀ l : List Tr, l.length ≤ (l.flatMap fun t => [32] ++ g t).length
 | [] => Nat.le_refl _
 | x :: xs => by
  have := fm_cnt (g := g) xs
  simp only [List.flatMap_cons, List.length_append, List.length_cons, List.length_nil]
  omega
theorem fm_step {g : Tr → List UInt8} {l : List Tr} {j : Nat} {t : Tr} (h : l[j]? = some t) : (l.drop j).flatMap (fun t => [32] ++ g t) = ([32] ++ g t) ++ (l.drop (j + 1)).flatMap (fun t => [32] ++ g t) := by
 obtain ⟨hi, rfl⟩ := List.getElem?_eq_some_iff.1 h
 rw [List.drop_eq_getElem_cons hi, List.flatMap_cons]
theorem hd_ok {ps : List Sp} (hck : ckC (ps.map Sp.k) = 0) : okT 20 (hdT (ps.map Sp.k)) = true := by
 unfold hdT
 cases e : (ps.map Sp.k)[(fdI (ps.map Sp.k) 3).toNat]? with
 | none => rfl
 | some k =>
  show okT 20 (if _ then k.1 else 0) = true
  split
  ·
   exact (qdi ((yk hck).2 _ (List.mem_of_getElem? e))).1
  ·
   rfl
theorem tl_ne {ps : List Sp} {f g : Tr → List UInt8} (hck : ckC (ps.map Sp.k) = 0) : tlS f g (ps.map Sp.k) ≠ [] := by
 have := nmL_ne (hd_ok hck)
 unfold tlS
 intro e
 simp only [List.append_eq_nil_iff] at e
 exact this e.1.1.1
theorem op_len {o : Option Tr} {f : Tr → List UInt8} {t : Tr} (h : o = some t) : opT o f = f t := by rw [h]; rfl
theorem fm_len {g : Tr → List UInt8} {l : List Tr} {j : Nat} {t : Tr} (h : l[j]? = some t) : (g t).length ≤ (l.flatMap fun t => [32] ++ g t).length := by
 have hm := List.mem_of_getElem? h
 obtain ⟨a, b, rfl⟩ := List.append_of_mem hm
 simp only [List.flatMap_append, List.flatMap_cons, List.length_append]
 omega
set_option maxHeartbeats 1000000 in
theorem tell_ok {w : World} {so : Option Addr} {ca : Nat} {ps : List Sp} (hPs : PR w so ps) (hl : ps.length ≤ 1000000000) (hck : ckC (ps.map Sp.k) = 0) (hB : PB ps) (hT : Tabs8 w) {f g : Tr → List UInt8} (hDi : ∀ (d : Dt) (w1 : World), d.rd w → (∃ p ∈ ps, d ∈ p.vs) → (flT (ps.map Sp.k) 8 = some d.tr ∨ flT (ps.map Sp.k) 1 = some d.tr) → Below w.heap.size w w1 → Calls Tryz.prog 70 #[.agg (d.d.cells d.ts.length).toArray] w1 fun e w2 => e = .returned (.tuple #[.string ⟨(f d.tr).toArray⟩, .int .i64 0]) ∧ Below w1.heap.size w1 w2) (hWr : ∀ (d : Dt) (w1 : World), d.rd w1 → d.tr ∈ irT (ps.map Sp.k) → Below w.heap.size w w1 → Calls Tryz.prog 72 #[.agg (d.d.cells d.ts.length).toArray] w1 fun e w2 => e = .returned (.tuple #[.string ⟨(g d.tr).toArray⟩, .int .i64 0]) ∧ Below w1.heap.size w1 w2) (hlen : (tlS f g (ps.map Sp.k)).length ≤ 1000000000) : Calls Tryz.prog 24 #[.slice so ps.length ca] w fun e w' => e = .returned (.tuple #[.string ⟨(tlS f g (ps.map Sp.k)).toArray⟩, .int .i64 0]) ∧ Below w.heap.size w w' := by
 have hb0 : (nmL (hdT (ps.map Sp.k))).length ≤ 100 := by unfold nmL; rw [jq]; exact nmL_len (hd_ok hck)
 have hr0 : ([] : List UInt8).length + (kat (hdT (ps.map Sp.k))).nm.size ≤ 140737488355328 := by have := nmL_len (hd_ok hck); simp only [List.length_nil]; omega
 have hb1 : (nmL (hdT (ps.map Sp.k)) ++ opT (flT (ps.map Sp.k) 8) fun t => [32, 105, 110, 32] ++ f t).length ≤ 1000000000 := by
  have h9 := hlen
  unfold tlS at h9
  rw [List.length_append, List.length_append] at h9
  omega
 have hfull : (tlS f g (ps.map Sp.k)).length ≤ 1000000000 := hlen
 have hparts : (tlS f g (ps.map Sp.k)).length = (nmL (hdT (ps.map Sp.k))).length + (opT (flT (ps.map Sp.k) 8) fun t => [32, 105, 110, 32] ++ f t).length + (opT (flT (ps.map Sp.k) 1) fun t => [58, 32] ++ f t).length + ((irT (ps.map Sp.k)).flatMap fun t => [32] ++ g t).length := by unfold tlS; simp only [List.length_append]
 have flen8 : ∀ t, flT (ps.map Sp.k) 8 = some t → 4 + (f t).length = (opT (flT (ps.map Sp.k) 8) fun t => [32, 105, 110, 32] ++ f t).length := fun t h => by rw [op_len h, List.length_append]; rfl
 have flen1 : ∀ t, flT (ps.map Sp.k) 1 = some t → 2 + (f t).length = (opT (flT (ps.map Sp.k) 1) fun t => [58, 32] ++ f t).length := fun t h => by rw [op_len h, List.length_append]; rfl
 have glen : ∀ {j : Nat} {t : Tr}, (irT (ps.map Sp.k))[j]? = some t → (g t).length ≤ 1000000000 := fun h => by have := fm_len (g := g) h; omega
 have M : Mg w w ([]) := Mg.start w
 refine qr (l := [(0, .slice so ps.length ca)]) Tryz.func24 rfl Tryz.ntmps24 rfl rfl ?_
 intro Q hret hnorm hP a A
 refine wsk fun K1 hK1 => wrl ?_
 iterate 2 refine sda A λa A↦?_
 refine qa (hK1 _ _ (wsk fun K2 hK2 => wsk fun K3 hK3 => wrl (sdm A λa A↦?_)))
 refine gcl A M (ef rfl rfl) ((hck ▸ qac (hPs.below M.bel) hB hl (hT.below M.bel))) fun w4 hbc M a A => ?_
 refine sda A λa A↦?_
 refine qa (hK3 _ _ (wsk fun K5 hK5 => wrl (sdm A λa A↦?_)))
 refine sdo (v := .bool false) A (qg rfl rfl (fun w => by kernel_rfl)) λa A↦?_
 refine qa (hK5 _ _ (wp_cond_false (A.ev rfl) ?_))
 refine wp_skip (hK2 _ _ (wsk fun K6 hK6 => wrl (zg (vs := [.pointer none, .slice none 0 0]) (t := 78) A M rfl rfl rfl pg (qk (z := .agg #[.pointer none, .slice none 0 0]) (by kernel_rfl) rfl) (by decide) ?_)))
 intro gb w8 M a A
 replace M := (Mg.addNil M (qf (by simp) (qp qy)))
 replace M : Mg w w8 (.obj gb (.cells #[.pointer none, .slice none 0 0] 78) :: .row BY 1 (.slice none 0 0) 0 ([]) :: []) := M.perm (.swap _ _ _)
 refine qa (hK6 _ _ (wsk fun K9 hK9 => wrl (sdm A λa A↦?_)))
 refine gcl A M (ef rfl rfl) (headOf_any (hPs.below M.bel) hl hck) fun w10 hbh M a A => ?_
 refine sct A (ef rfl rfl) (ya (bs := []) (s := (kat (hdT (ps.map Sp.k))).nm) (.inl rfl) M (hr0)) ?_
 rintro _ w13 ⟨rfl, v11, hM12⟩
 replace M : Mg w w13 (.obj gb (.cells #[.pointer (some ⟨gb, 0, none⟩), v11] 78) :: .row BY 1 (v11) (((nmL (hdT (ps.map Sp.k)))).length) ((Lib.byteCells ((nmL (hdT (ps.map Sp.k)))))) :: []) := hM12
 refine ⟨_, rfl, ?_⟩
 intro a A
 refine qa (hK9 _ _ (wsk fun K14 hK14 => ?_))
 have hJ15 : ∀ a w1, (∃ (vb : Value), Sl a 53 [(0, .slice so ps.length ca), (2, .string (⟨#[]⟩)), (3, .int .i64 0), (4, .int .i64 0), (5, .pointer (some ⟨gb, 0, none⟩)), (12, .slice so ps.length ca), (13, .int .i64 0), (14, .int .i64 0), (15, .bool false), (17, .slice so ps.length ca), (18, .string ((kat (hdT (ps.map Sp.k))).nm))] ∧ Mg w w1 (.obj gb (.cells #[.pointer (some ⟨gb, 0, none⟩), vb] 78) :: .row BY 1 (vb) (((nmL (hdT (ps.map Sp.k)) ++ opT (flT (ps.map Sp.k) 8) fun t => [32, 105, 110, 32] ++ f t)).length) ((Lib.byteCells ((nmL (hdT (ps.map Sp.k)) ++ opT (flT (ps.map Sp.k) 8) fun t => [32, 105, 110, 32] ++ f t)))) :: [])) → K14 a w1 := by
  clear A M
  rintro a w16 ⟨vb, A, M⟩
  refine hK14 _ _ (wsk fun K18 hK18 => ?_)
  have hJ19 : ∀ a w1, (∃ (vb : Value), Sl a 53 [(0, .slice so ps.length ca), (2, .string (⟨#[]⟩)), (3, .int .i64 0), (4, .int .i64 0), (5, .pointer (some ⟨gb, 0, none⟩)), (12, .slice so ps.length ca), (13, .int .i64 0), (14, .int .i64 0), (15, .bool false), (17, .slice so ps.length ca), (18, .string ((kat (hdT (ps.map Sp.k))).nm))] ∧ Mg w w1 (.obj gb (.cells #[.pointer (some ⟨gb, 0, none⟩), vb] 78) :: .row BY 1 (vb) ((((nmL (hdT (ps.map Sp.k)) ++ opT (flT (ps.map Sp.k) 8) fun t => [32, 105, 110, 32] ++ f t) ++ opT (flT (ps.map Sp.k) 1) fun t => [58, 32] ++ f t)).length) ((Lib.byteCells (((nmL (hdT (ps.map Sp.k)) ++ opT (flT (ps.map Sp.k) 8) fun t => [32, 105, 110, 32] ++ f t) ++ opT (flT (ps.map Sp.k) 1) fun t => [58, 32] ++ f t)))) :: [])) → K18 a w1 := by
   clear A M
   rintro a w20 ⟨vb, A, M⟩
   refine hK18 _ _ (wsk fun K22 hK22 => wsk fun K23 hK23 => wrl (sdm A λa A↦?_))
   refine sct A (ef rfl rfl) (qbi (hPs.below M.bel) hl hck hB (hT.below M.bel)) ?_
   rintro _ w25 ⟨so8, ca8, ys, rfl, ⟨hi8, hR8, hI8, hD8⟩, hb24⟩
   have hL8 : ∀ u1 u2, Mg u1 u2 (made w20 w25) → Rt u2 so8 ys ∧ ∀ x ∈ ys, x.rd u2 := fun u1 u2 h9 => ⟨hR8.seen hI8 (vu h9), fun x hx => Dt.seen (vu h9) _ (hD8 x hx).1 (hD8 x hx).2⟩
   have hyl : ys.length = (irT (ps.map Sp.k)).length := by rw [← hi8, List.length_map]
   have hyb := fm_cnt (g := g) (irT (ps.map Sp.k))
   replace M : Mg w w25 (.obj gb (.cells #[.pointer (some ⟨gb, 0, none⟩), vb] 78) :: .row BY 1 (vb) ((((nmL (hdT (ps.map Sp.k)) ++ opT (flT (ps.map Sp.k) 8) fun t => [32, 105, 110, 32] ++ f t) ++ opT (flT (ps.map Sp.k) 1) fun t => [58, 32] ++ f t)).length) ((Lib.byteCells (((nmL (hdT (ps.map Sp.k)) ++ opT (flT (ps.map Sp.k) 8) fun t => [32, 105, 110, 32] ++ f t) ++ opT (flT (ps.map Sp.k) 1) fun t => [58, 32] ++ f t)))) :: (made w20 w25 ++ [])) := M.freezeAt 2 (qf (by simp) (qf (by simp) (qp qy))) hb24
   refine ⟨_, rfl, ?_⟩
   intro a A
   refine sdo A (ze Tryz.underlying39 rfl) λa A↦?_
   refine sdm A λa A↦?_
   refine qa (hK23 _ _ (wp_block (ja (fun m_ a w1 => ∃ (j : Nat) (acc : List UInt8) (vb2 : Value), m_ = 1 + (ys.length - j) ∧ (j ≤ ys.length ∧ acc ++ ((irT (ps.map Sp.k)).drop j).flatMap (fun t => [32] ++ g t) = (tlS f g (ps.map Sp.k))) ∧ Sl a 53 [(0, .slice so ps.length ca), (2, .string (⟨#[]⟩)), (3, .int .i64 0), (4, .int .i64 0), (5, .pointer (some ⟨gb, 0, none⟩)), (12, .slice so ps.length ca), (13, .int .i64 0), (14, .int .i64 0), (15, .bool false), (17, .slice so ps.length ca), (18, .string ((kat (hdT (ps.map Sp.k))).nm)), (40, .slice so ps.length ca), (41, .slice so8 ys.length ca8), (42, .int .i64 (((ys.length : Nat) : Int))), (43, .int .i64 (((j : Nat) : Int)))] ∧ Mg w w1 (.obj gb (.cells #[.pointer (some ⟨gb, 0, none⟩), vb2] 78) :: .row BY 1 (vb2) acc.length ((Lib.byteCells acc)) :: (made w20 w25 ++ []))) _ ⟨0, ((nmL (hdT (ps.map Sp.k)) ++ opT (flT (ps.map Sp.k) 8) fun t => [32, 105, 110, 32] ++ f t) ++ opT (flT (ps.map Sp.k) 1) fun t => [58, 32] ++ f t), vb, rfl, ⟨Nat.zero_le _, rfl⟩, A.keep _ (by repeat' constructor), M⟩ ?_)))
   clear M A
   rintro m_ a w26 ⟨j, acc, vb2, rfl, hinv28, A, M⟩ K27 hK27
   obtain ⟨hj0, hin9⟩ := hinv28
   have hal : acc.length ≤ 1000000000 := by have := congrArg List.length hin9; rw [List.length_append] at this; omega
   refine wsk fun K29 hK29 => wrl ?_
   rcases tf (decide (((j : Nat) : Int) < ((ys.length : Nat) : Int))) with hb30 | hb30
   ·
    have hb30' := of_decide_eq_true hb30
    refine sdc A zl hb30 λa A↦?_
    refine qa (hK29 _ _ (wsk fun K31 hK31 => wp_cond_true (A.ev rfl) ?_))
    refine wp_skip (hK31 _ _ (wsk fun K32 hK32 => wp_block (wsk fun K33 hK33 => wrl ?_)))
    obtain ⟨tk, btk, otk, itk, mtk, rtk_, ltk, Htk⟩ := kidL (hL8 _ _ ((M.dropn 2).sub (List.sublist_append_left _ _))).1 (hL8 _ _ ((M.dropn 2).sub (List.sublist_append_left _ _))).2 (i := j) (by omega)
    refine sdo (v := .pointer (some ⟨btk, otk + j * 11, none⟩)) A (zp (k := j) Tryz.underlying39 (by kernel_rfl) rfl rfl rfl ltk (by omega)) λa A↦?_
    refine sdo A (m_loadHSC Htk KcG_isS_53 rfl rfl) λa A↦?_
    refine zg (vs := (qs.d.cells qs.ts.length)) (t := 53) A M rfl rfl rfl pg (qk (z := .agg (qs.d.cells qs.ts.length).toArray) (by kernel_rfl) rfl) (by decide) ?_
    intro g34 w35 M a A
    refine qw (us := (tk.d.cells tk.ts.length)) (L' := (.obj g34 (.cells (tk.d.cells tk.ts.length).toArray 53) :: .obj gb (.cells #[.pointer (some ⟨gb, 0, none⟩), vb2] 78) :: .row BY 1 (vb2) acc.length ((Lib.byteCells acc)) :: (made w20 w25 ++ []))) A M rfl rfl (qj rfl rfl rfl (by kernel_rfl) M 0 rfl rfl rfl) 0 rfl rfl rfl ?_
    intro w36 M
    refine qa (hK33 _ _ (wrl (sdo A (za M KcG_isS_53 rfl 0 rfl (cs := (tk.d.cells tk.ts.length)) rfl rfl) λa A↦?_)))
    have hmi : tk.tr ∈ irT (ps.map Sp.k) := hi8 ▸ List.mem_map_of_mem mtk
    have hit : (irT (ps.map Sp.k))[j]? = some tk.tr := by rw [← hi8, List.getElem?_map, itk]; rfl
    have hgl := glen hit
    refine gcl A M (ef rfl rfl) (written_any (fun w1 hb1 => hWr tk w1 (Dt.keep hb1 _ ((hL8 _ _ ((M.dropn 3).sub (List.sublist_append_left _ _))).2 _ mtk)) hmi (M.bel.trans (hb1.mono M.bel.size)))) fun w38 hb37 M a A => ?_
    obtain ⟨sx39, hsx40⟩ : ∃ s : ByteArray, (⟨([32] ++ (g tk.tr)).toArray⟩ : ByteArray) = s := ⟨_, rfl⟩
    have hlx41 : sx39.data.toList = [32] ++ (g tk.tr) := by rw [← hsx40]
    have hzx42 : sx39.size = ([32] ++ (g tk.tr)).length := by rw [← jq, hlx41]
    refine sdo (v := .string sx39) A (qg rfl rfl (fun w => (qfb (a := [32]) (b := (g tk.tr)) (by simp only [List.length_cons, List.length_nil]; omega) w).trans (by rw [hsx40]))) λa A↦?_
    replace M : Mg w w38 (.obj gb (.cells #[.pointer (some ⟨gb, 0, none⟩), vb2] 78) :: .row BY 1 (vb2) acc.length ((Lib.byteCells acc)) :: .obj g34 (.cells (tk.d.cells tk.ts.length).toArray 53) :: (made w20 w25 ++ [])) := (M.bring 2 rfl rfl).bring 2 rfl rfl
    refine sct A (ef rfl rfl) (ya (bs := acc) (s := sx39) (.inr rfl) M (by rw [hzx42]; exact qkc hal (by rw [List.length_append]; simp only [List.length_cons, List.length_nil]; omega))) ?_
    rintro _ w45 ⟨rfl, v43, hM44⟩
    rw [hlx41] at hM44
    replace M : Mg w w45 (.obj gb (.cells #[.pointer (some ⟨gb, 0, none⟩), v43] 78) :: .row BY 1 (v43) (((acc ++ ([32] ++ (g tk.tr)))).length) ((Lib.byteCells ((acc ++ ([32] ++ (g tk.tr)))))) :: .obj g34 (.cells (tk.d.cells tk.ts.length).toArray 53) :: (made w20 w25 ++ [])) := hM44
    refine ⟨_, rfl, ?_⟩
    intro a A
    refine qa (hK32 _ _ (wrl (sdo (v := .int .i64 (((j + 1 : Nat) : Int))) A (qg rfl rfl (fun w => (jk (xj (by omega) (by omega)) w).trans (by rw [show (((j : Nat) : Int) + 1 : Int) = ((j + 1 : Nat) : Int) from by omega]))) λa A↦?_)))
    refine sdm A λa A↦?_
    refine qa ?_
    replace M : Mg w w45 (.obj gb (.cells #[.pointer (some ⟨gb, 0, none⟩), v43] 78) :: .row BY 1 (v43) (((acc ++ ([32] ++ (g tk.tr)))).length) ((Lib.byteCells ((acc ++ ([32] ++ (g tk.tr)))))) :: (made w20 w25 ++ [])) := M.sub (cc (cc (cn (.refl _))))
    refine hK27 _ _ _ (by omega) ⟨j + 1, (acc ++ ([32] ++ g tk.tr)), v43, rfl, ⟨by omega, by rw [← hin9, fm_step hit, List.append_assoc]⟩, A.keep _ (by repeat' constructor), M⟩
   ·
    have hb30' := of_decide_eq_false hb30
    refine sdc A zl hb30 λa A↦?_
    refine qa (hK29 _ _ (wsk fun K46 hK46 => wp_cond_false (A.ev rfl) ?_))
    refine wp_exit (hK22 _ _ (wsk fun K47 hK47 => wrl ?_))
    have e9 : acc = (tlS f g (ps.map Sp.k)) := by rw [← hin9, List.drop_of_length_le (by omega)]; simp
    refine sct A (ef rfl rfl) (string2_any (bs := acc) M (by rw [e9]; exact tl_ne hck) (by rw [e9]; omega)) ?_
    rintro _ w49 ⟨rfl, hb48⟩
    replace M : Mg w w49 ([]) := ⟨M.bel.trans hb48, by simp, .nil⟩
    refine ⟨_, rfl, ?_⟩
    intro a A
    iterate 2 refine sda A λa A↦?_
    refine qa (hK47 _ _ (wp_ret (hret _ _ (en2 A rfl (qe rfl) (qe rfl) ?_))))
    exact ⟨by rw [e9], M.bel⟩
  refine wsk fun K50 hK50 => wrl (sdm A λa A↦?_)
  rcases tf (decide (0 ≤ fdI (ps.map Sp.k) 1)) with hb51 | hb51
  ·
   have hb51' := of_decide_eq_true hb51
   refine sct A (ef rfl rfl) (kt (hPs.below M.bel) hl hck (by decide) hb51) ?_
   rintro _ w53 ⟨d1, rfl, ⟨hfd1, -, hqd1⟩, hb52⟩
   have hrd1 : d1.rd w := (by obtain ⟨p9, hp9, hd9⟩ := hqd1; exact (hPs.own p9 hp9).d _ hd9)
   replace M := M.call hb52
   refine ⟨_, rfl, ?_⟩
   intro a A
   refine sdm A λa A↦?_
   iterate 2 refine sdo A (ql (vs := [.agg (d1.d.cells d1.ts.length).toArray, .bool true]) rfl rfl) λa A↦?_
   refine zg (vs := (qs.d.cells qs.ts.length)) (t := 53) A M rfl rfl rfl pg (qk (z := .agg (qs.d.cells qs.ts.length).toArray) (by kernel_rfl) rfl) (by decide) ?_
   intro g54 w55 M a A
   refine qw (us := (d1.d.cells d1.ts.length)) (L' := (.obj g54 (.cells (d1.d.cells d1.ts.length).toArray 53) :: .obj gb (.cells #[.pointer (some ⟨gb, 0, none⟩), vb] 78) :: .row BY 1 (vb) (((nmL (hdT (ps.map Sp.k)) ++ opT (flT (ps.map Sp.k) 8) fun t => [32, 105, 110, 32] ++ f t)).length) ((Lib.byteCells ((nmL (hdT (ps.map Sp.k)) ++ opT (flT (ps.map Sp.k) 8) fun t => [32, 105, 110, 32] ++ f t)))) :: [])) A M rfl rfl (qj rfl rfl rfl (by kernel_rfl) M 0 rfl rfl rfl) 0 rfl rfl rfl ?_
   intro w56 M
   refine sda A λa A↦?_
   refine qa (hK50 _ _ (wsk fun K57 hK57 => wrl (sdm A λa A↦?_)))
   refine qa (hK57 _ _ (wp_cond_true (A.ev rfl) ?_))
   refine wrl (sdo A (za M KcG_isS_53 rfl 0 rfl (cs := (d1.d.cells d1.ts.length)) rfl rfl) λa A↦?_)
   refine gcl A M (ef rfl rfl) (qhh (fun w1 hb1 => hDi d1 w1 hrd1 hqd1 (.inr hfd1) (M.bel.trans (hb1.mono M.bel.size)))) fun w59 hb58 M a A => ?_
   obtain ⟨sx60, hsx61⟩ : ∃ s : ByteArray, (⟨([58, 32] ++ (f d1.tr)).toArray⟩ : ByteArray) = s := ⟨_, rfl⟩
   have hlx62 : sx60.data.toList = [58, 32] ++ (f d1.tr) := by rw [← hsx61]
   have hzx63 : sx60.size = ([58, 32] ++ (f d1.tr)).length := by rw [← jq, hlx62]
   refine sdo (v := .string sx60) A (qg rfl rfl (fun w => (qfb (a := [58, 32]) (b := (f d1.tr)) (by have := flen1 d1.tr hfd1; simp only [List.length_cons, List.length_nil]; omega) w).trans (by rw [hsx61]))) λa A↦?_
   replace M : Mg w w59 (.obj gb (.cells #[.pointer (some ⟨gb, 0, none⟩), vb] 78) :: .row BY 1 (vb) (((nmL (hdT (ps.map Sp.k)) ++ opT (flT (ps.map Sp.k) 8) fun t => [32, 105, 110, 32] ++ f t)).length) ((Lib.byteCells ((nmL (hdT (ps.map Sp.k)) ++ opT (flT (ps.map Sp.k) 8) fun t => [32, 105, 110, 32] ++ f t)))) :: .obj g54 (.cells (d1.d.cells d1.ts.length).toArray 53) :: []) := (M.bring 2 rfl rfl).bring 2 rfl rfl
   refine sct A (ef rfl rfl) (ya (bs := (nmL (hdT (ps.map Sp.k)) ++ opT (flT (ps.map Sp.k) 8) fun t => [32, 105, 110, 32] ++ f t)) (s := sx60) (.inr rfl) M (by rw [hzx63]; exact qkc hb1 (by have := flen1 d1.tr hfd1; rw [List.length_append]; simp only [List.length_cons, List.length_nil]; omega))) ?_
   rintro _ w66 ⟨rfl, v64, hM65⟩
   rw [hlx62] at hM65
   replace M : Mg w w66 (.obj gb (.cells #[.pointer (some ⟨gb, 0, none⟩), v64] 78) :: .row BY 1 (v64) ((((nmL (hdT (ps.map Sp.k)) ++ opT (flT (ps.map Sp.k) 8) fun t => [32, 105, 110, 32] ++ f t) ++ ([58, 32] ++ (f d1.tr)))).length) ((Lib.byteCells (((nmL (hdT (ps.map Sp.k)) ++ opT (flT (ps.map Sp.k) 8) fun t => [32, 105, 110, 32] ++ f t) ++ ([58, 32] ++ (f d1.tr)))))) :: .obj g54 (.cells (d1.d.cells d1.ts.length).toArray 53) :: []) := hM65
   refine ⟨_, rfl, ?_⟩
   intro a A
   refine qa ?_
   replace M : Mg w w66 (.obj gb (.cells #[.pointer (some ⟨gb, 0, none⟩), v64] 78) :: .row BY 1 (v64) ((((nmL (hdT (ps.map Sp.k)) ++ opT (flT (ps.map Sp.k) 8) fun t => [32, 105, 110, 32] ++ f t) ++ ([58, 32] ++ (f d1.tr)))).length) ((Lib.byteCells (((nmL (hdT (ps.map Sp.k)) ++ opT (flT (ps.map Sp.k) 8) fun t => [32, 105, 110, 32] ++ f t) ++ ([58, 32] ++ (f d1.tr)))))) :: []) := ((M.bring 1 rfl rfl).bring 1 rfl rfl).sub (cc (cc (cn (.refl _))))
   replace M : Mg w w66 (.obj gb (.cells #[.pointer (some ⟨gb, 0, none⟩), v64] 78) :: .row BY 1 (v64) ((((nmL (hdT (ps.map Sp.k)) ++ opT (flT (ps.map Sp.k) 8) fun t => [32, 105, 110, 32] ++ f t) ++ opT (flT (ps.map Sp.k) 1) fun t => [58, 32] ++ f t)).length) ((Lib.byteCells (((nmL (hdT (ps.map Sp.k)) ++ opT (flT (ps.map Sp.k) 8) fun t => [32, 105, 110, 32] ++ f t) ++ opT (flT (ps.map Sp.k) 1) fun t => [58, 32] ++ f t)))) :: []) := by rw [show flT (ps.map Sp.k) 1 = some d1.tr from hfd1]; exact M
   exact hJ19 _ _ ⟨v64, A.keep _ (by repeat' constructor), M⟩
  ·
   have hb51' := of_decide_eq_false hb51
   refine gcl A M (ef rfl rfl) (yq (hPs.below M.bel) hl hck (by decide) hb51) fun w68 hb67 M a A => ?_
   refine sdm A λa A↦?_
   iterate 2 refine sdo A (ql (vs := [.agg (qs.d.cells qs.ts.length).toArray, .bool false]) rfl rfl) λa A↦?_
   refine zg (vs := (qs.d.cells qs.ts.length)) (t := 53) A M rfl rfl rfl pg (qk (z := .agg (qs.d.cells qs.ts.length).toArray) (by kernel_rfl) rfl) (by decide) ?_
   intro g69 w70 M a A
   refine qw (us := (qs.d.cells qs.ts.length)) (L' := (.obj g69 (.cells (qs.d.cells qs.ts.length).toArray 53) :: .obj gb (.cells #[.pointer (some ⟨gb, 0, none⟩), vb] 78) :: .row BY 1 (vb) (((nmL (hdT (ps.map Sp.k)) ++ opT (flT (ps.map Sp.k) 8) fun t => [32, 105, 110, 32] ++ f t)).length) ((Lib.byteCells ((nmL (hdT (ps.map Sp.k)) ++ opT (flT (ps.map Sp.k) 8) fun t => [32, 105, 110, 32] ++ f t)))) :: [])) A M rfl rfl (qj rfl rfl rfl (by kernel_rfl) M 0 rfl rfl rfl) 0 rfl rfl rfl ?_
   intro w71 M
   refine sda A λa A↦?_
   refine qa (hK50 _ _ (wsk fun K72 hK72 => wrl (sdm A λa A↦?_)))
   refine qa (hK72 _ _ (wp_cond_false (A.ev rfl) ?_))
   refine wp_skip ?_
   replace M : Mg w w71 (.obj gb (.cells #[.pointer (some ⟨gb, 0, none⟩), vb] 78) :: .row BY 1 (vb) (((nmL (hdT (ps.map Sp.k)) ++ opT (flT (ps.map Sp.k) 8) fun t => [32, 105, 110, 32] ++ f t)).length) ((Lib.byteCells ((nmL (hdT (ps.map Sp.k)) ++ opT (flT (ps.map Sp.k) 8) fun t => [32, 105, 110, 32] ++ f t)))) :: []) := ((M.bring 2 rfl rfl).bring 2 rfl rfl).sub (cc (cc (cn (.refl _))))
   replace M : Mg w w71 (.obj gb (.cells #[.pointer (some ⟨gb, 0, none⟩), vb] 78) :: .row BY 1 (vb) ((((nmL (hdT (ps.map Sp.k)) ++ opT (flT (ps.map Sp.k) 8) fun t => [32, 105, 110, 32] ++ f t) ++ opT (flT (ps.map Sp.k) 1) fun t => [58, 32] ++ f t)).length) ((Lib.byteCells (((nmL (hdT (ps.map Sp.k)) ++ opT (flT (ps.map Sp.k) 8) fun t => [32, 105, 110, 32] ++ f t) ++ opT (flT (ps.map Sp.k) 1) fun t => [58, 32] ++ f t)))) :: []) := by rw [flT_no (of_decide_eq_false hb51)]; rw [show ∀ q : Tr → List UInt8, opT none q = [] from fun _ => rfl, List.append_nil]; exact M
   exact hJ19 _ _ ⟨vb, A.keep _ (by repeat' constructor), M⟩
 refine wsk fun K73 hK73 => wrl (sdm A λa A↦?_)
 rcases tf (decide (0 ≤ fdI (ps.map Sp.k) 8)) with hb74 | hb74
 ·
  have hb74' := of_decide_eq_true hb74
  refine sct A (ef rfl rfl) (kt (hPs.below M.bel) hl hck (by decide) hb74) ?_
  rintro _ w76 ⟨d8, rfl, ⟨hfd8, -, hqd8⟩, hb75⟩
  have hrd8 : d8.rd w := (by obtain ⟨p9, hp9, hd9⟩ := hqd8; exact (hPs.own p9 hp9).d _ hd9)
  replace M := M.call hb75
  refine ⟨_, rfl, ?_⟩
  intro a A
  refine sdm A λa A↦?_
  iterate 2 refine sdo A (ql (vs := [.agg (d8.d.cells d8.ts.length).toArray, .bool true]) rfl rfl) λa A↦?_
  refine zg (vs := (qs.d.cells qs.ts.length)) (t := 53) A M rfl rfl rfl pg (qk (z := .agg (qs.d.cells qs.ts.length).toArray) (by kernel_rfl) rfl) (by decide) ?_
  intro g77 w78 M a A
  refine qw (us := (d8.d.cells d8.ts.length)) (L' := (.obj g77 (.cells (d8.d.cells d8.ts.length).toArray 53) :: .obj gb (.cells #[.pointer (some ⟨gb, 0, none⟩), v11] 78) :: .row BY 1 (v11) (((nmL (hdT (ps.map Sp.k)))).length) ((Lib.byteCells ((nmL (hdT (ps.map Sp.k)))))) :: [])) A M rfl rfl (qj rfl rfl rfl (by kernel_rfl) M 0 rfl rfl rfl) 0 rfl rfl rfl ?_
  intro w79 M
  refine sda A λa A↦?_
  refine qa (hK73 _ _ (wsk fun K80 hK80 => wrl (sdm A λa A↦?_)))
  refine qa (hK80 _ _ (wp_cond_true (A.ev rfl) ?_))
  refine wrl (sdo A (za M KcG_isS_53 rfl 0 rfl (cs := (d8.d.cells d8.ts.length)) rfl rfl) λa A↦?_)
  refine gcl A M (ef rfl rfl) (qhh (fun w1 hb1 => hDi d8 w1 hrd8 hqd8 (.inl hfd8) (M.bel.trans (hb1.mono M.bel.size)))) fun w82 hb81 M a A => ?_
  obtain ⟨sx83, hsx84⟩ : ∃ s : ByteArray, (⟨([32, 105, 110, 32] ++ (f d8.tr)).toArray⟩ : ByteArray) = s := ⟨_, rfl⟩
  have hlx85 : sx83.data.toList = [32, 105, 110, 32] ++ (f d8.tr) := by rw [← hsx84]
  have hzx86 : sx83.size = ([32, 105, 110, 32] ++ (f d8.tr)).length := by rw [← jq, hlx85]
  refine sdo (v := .string sx83) A (qg rfl rfl (fun w => (qfb (a := [32, 105, 110, 32]) (b := (f d8.tr)) (by have := flen8 d8.tr hfd8; simp only [List.length_cons, List.length_nil]; omega) w).trans (by rw [hsx84]))) λa A↦?_
  replace M : Mg w w82 (.obj gb (.cells #[.pointer (some ⟨gb, 0, none⟩), v11] 78) :: .row BY 1 (v11) (((nmL (hdT (ps.map Sp.k)))).length) ((Lib.byteCells ((nmL (hdT (ps.map Sp.k)))))) :: .obj g77 (.cells (d8.d.cells d8.ts.length).toArray 53) :: []) := (M.bring 2 rfl rfl).bring 2 rfl rfl
  refine sct A (ef rfl rfl) (ya (bs := (nmL (hdT (ps.map Sp.k)))) (s := sx83) (.inr rfl) M (by rw [hzx86]; exact qkc (Nat.le_trans hb0 (by decide)) (by have := flen8 d8.tr hfd8; rw [List.length_append]; simp only [List.length_cons, List.length_nil]; omega))) ?_
  rintro _ w89 ⟨rfl, v87, hM88⟩
  rw [hlx85] at hM88
  replace M : Mg w w89 (.obj gb (.cells #[.pointer (some ⟨gb, 0, none⟩), v87] 78) :: .row BY 1 (v87) ((((nmL (hdT (ps.map Sp.k))) ++ ([32, 105, 110, 32] ++ (f d8.tr)))).length) ((Lib.byteCells (((nmL (hdT (ps.map Sp.k))) ++ ([32, 105, 110, 32] ++ (f d8.tr)))))) :: .obj g77 (.cells (d8.d.cells d8.ts.length).toArray 53) :: []) := hM88
  refine ⟨_, rfl, ?_⟩
  intro a A
  refine qa ?_
  replace M : Mg w w89 (.obj gb (.cells #[.pointer (some ⟨gb, 0, none⟩), v87] 78) :: .row BY 1 (v87) ((((nmL (hdT (ps.map Sp.k))) ++ ([32, 105, 110, 32] ++ (f d8.tr)))).length) ((Lib.byteCells (((nmL (hdT (ps.map Sp.k))) ++ ([32, 105, 110, 32] ++ (f d8.tr)))))) :: []) := ((M.bring 1 rfl rfl).bring 1 rfl rfl).sub (cc (cc (cn (.refl _))))
  replace M : Mg w w89 (.obj gb (.cells #[.pointer (some ⟨gb, 0, none⟩), v87] 78) :: .row BY 1 (v87) (((nmL (hdT (ps.map Sp.k)) ++ opT (flT (ps.map Sp.k) 8) fun t => [32, 105, 110, 32] ++ f t)).length) ((Lib.byteCells ((nmL (hdT (ps.map Sp.k)) ++ opT (flT (ps.map Sp.k) 8) fun t => [32, 105, 110, 32] ++ f t)))) :: []) := by rw [show flT (ps.map Sp.k) 8 = some d8.tr from hfd8]; exact M
  exact hJ15 _ _ ⟨v87, A.keep _ (by repeat' constructor), M⟩
 ·
  have hb74' := of_decide_eq_false hb74
  refine gcl A M (ef rfl rfl) (yq (hPs.below M.bel) hl hck (by decide) hb74) fun w91 hb90 M a A => ?_
  refine sdm A λa A↦?_
  iterate 2 refine sdo A (ql (vs := [.agg (qs.d.cells qs.ts.length).toArray, .bool false]) rfl rfl) λa A↦?_
  refine zg (vs := (qs.d.cells qs.ts.length)) (t := 53) A M rfl rfl rfl pg (qk (z := .agg (qs.d.cells qs.ts.length).toArray) (by kernel_rfl) rfl) (by decide) ?_
  intro g92 w93 M a A
  refine qw (us := (qs.d.cells qs.ts.length)) (L' := (.obj g92 (.cells (qs.d.cells qs.ts.length).toArray 53) :: .obj gb (.cells #[.pointer (some ⟨gb, 0, none⟩), v11] 78) :: .row BY 1 (v11) (((nmL (hdT (ps.map Sp.k)))).length) ((Lib.byteCells ((nmL (hdT (ps.map Sp.k)))))) :: [])) A M rfl rfl (qj rfl rfl rfl (by kernel_rfl) M 0 rfl rfl rfl) 0 rfl rfl rfl ?_
  intro w94 M
  refine sda A λa A↦?_
  refine qa (hK73 _ _ (wsk fun K95 hK95 => wrl (sdm A λa A↦?_)))
  refine qa (hK95 _ _ (wp_cond_false (A.ev rfl) ?_))
  refine wp_skip ?_
  replace M : Mg w w94 (.obj gb (.cells #[.pointer (some ⟨gb, 0, none⟩), v11] 78) :: .row BY 1 (v11) (((nmL (hdT (ps.map Sp.k)))).length) ((Lib.byteCells ((nmL (hdT (ps.map Sp.k)))))) :: []) := ((M.bring 2 rfl rfl).bring 2 rfl rfl).sub (cc (cc (cn (.refl _))))
  replace M : Mg w w94 (.obj gb (.cells #[.pointer (some ⟨gb, 0, none⟩), v11] 78) :: .row BY 1 (v11) (((nmL (hdT (ps.map Sp.k)) ++ opT (flT (ps.map Sp.k) 8) fun t => [32, 105, 110, 32] ++ f t)).length) ((Lib.byteCells ((nmL (hdT (ps.map Sp.k)) ++ opT (flT (ps.map Sp.k) 8) fun t => [32, 105, 110, 32] ++ f t)))) :: []) := by rw [flT_no (of_decide_eq_false hb74)]; rw [show ∀ q : Tr → List UInt8, opT none q = [] from fun _ => rfl, List.append_nil]; exact M
  exact hJ15 _ _ ⟨v11, A.keep _ (by repeat' constructor), M⟩
/-- Bare texts. -/
def txD (k : Int) (s : ByteArray) : Dt := .mk ⟨k, 0, ⟨Q6.zero, none, 0, none, 0, none, 0, none, 0⟩, s, none, 0, [], none, 0⟩ []
def txT (k : Int) (s : ByteArray) : Tr := .mk k 0 Q6.zero s [] []
theorem txD_tr (k : Int) (s : ByteArray) : (txD k s).tr = txT k s := by unfold txD txT; rw [Dt.tr_mk]; rfl
def carD : Dt := txD 6 ⟨#[99, 97, 114]⟩
def noD : Dt := txD 5 ⟨#[110, 111]⟩
def carT : Tr := txT 6 ⟨#[99, 97, 114]⟩
def noT : Tr := txT 5 ⟨#[110, 111]⟩
theorem carD_tr : carD.tr = carT := txD_tr _ _
theorem noD_tr : noD.tr = noT := txD_tr _ _
theorem txD_rd (w : World) {k : Int} {s : ByteArray} (h0 : -9223372036854775808 ≤ k) (h1 : k ≤ 9223372036854775807) (h2 : s.size ≤ 1000) : (txD k s).rd w :=
  Dt.rd_iff.2 ⟨⟨⟨Sc.none w, Sc.none w, Sc.none w, Sc.none w⟩, ux, ⟨fun h => absurd rfl h⟩, Nat.le_refl _, by show (0 : Nat) ≤ _; omega, h0, h1, by show (-9223372036854775808 : Int) ≤ 0; decide, by show (0 : Int) ≤ _; decide, by show s.size ≤ _; omega⟩, Nat.le_refl _, by show (0 : Nat) ≤ _; omega, fun h => absurd rfl h, fun t h => by cases h⟩
theorem carD_rd (w : World) : carD.rd w := txD_rd w (by decide) (by decide) (by decide)
theorem noD_rd (w : World) : noD.rd w := txD_rd w (by decide) (by decide) (by decide)
theorem car_s : qz qh carT = true := by decide +kernel
theorem no_s : qz qh noT = true := by decide +kernel
theorem nil_s : qz qh nilT = true := by decide +kernel
theorem of_nil : ofS [] = nilT := by
  unfold ofS
  rw [fitS_yes (by rw [show zu [] nilT = nilT from rfl]; exact nil_s)]
  rfl
theorem nil_list : jh nilT = some [] := qag []
def K4 : List (Int × List Tr) := [(6, []), (8, [carT]), (1, [noT]), (7, [nilT])]
theorem aw_erS : erS carT noT [] true = (K4, 0) := by
  rw [erS_t car_s no_s (by rw [of_nil]; exact nil_s) (by decide), of_nil]
  rfl
theorem aw_ck : ckC K4 = 0 := by decide +kernel
theorem aw_fl8 : flT K4 8 = some carT := by rfl
theorem aw_fl1 : flT K4 1 = some noT := by rfl
theorem aw_fl7 : flT K4 7 = some nilT := by rfl
theorem aw_ir : irT K4 = [] := by
  unfold irT
  rw [aw_fl7]
  show (ug nilT).1 = []
  rw [qej nil_s nil_list]
def awB : List UInt8 := [97, 115, 115, 101, 114, 116, 105, 111, 110, 32, 105, 110, 32, 99, 97, 114, 58, 32, 110, 111]
def awF (t : Tr) : List UInt8 := t.s.data.toList
def awG (_ : Tr) : List UInt8 := []
theorem aw_text : tlS awF awG K4 = awB := by
  unfold tlS
  rw [aw_ir, aw_fl8, aw_fl1]
  decide +kernel
theorem aw_bulk : ∀ k ∈ K4, Tr.bulks k.2 ≤ 100000000 := by
  intro k hk
  simp only [K4, List.mem_cons, List.not_mem_nil, or_false] at hk
  rcases hk with rfl | rfl | rfl | rfl <;> decide
theorem car_bulk : carT.bulk ≤ 100000000 := by decide
theorem no_bulk : noT.bulk ≤ 100000000 := by decide
/-! The tree -/
/-! The document's parents -/
theorem aw_err {w : World} (hT : Tabs8 w) : Calls Tryz.prog 22 #[.agg (carD.d.cells carD.ts.length).toArray, .agg (noD.d.cells noD.ts.length).toArray, .slice none 0 0, .bool true] w fun e w' => ∃ (so' : Option Addr) (ca' : Nat) (cs : List Sp), e = .returned (.tuple #[.slice so' cs.length ca', .int .i64 0]) ∧ (cs.map Sp.k = K4 ∧ PR w' so' cs) ∧ Below w.heap.size w w' := by
 refine (error_any (carD_rd w) (noD_rd w) (is := []) (so2 := none) (ca2 := 0) (v := true) (fun h => absurd rfl h) (fun t h => by cases h) (by rw [carD_tr]; exact car_bulk) (by rw [noD_tr]; exact no_bulk) (by show 0 ≤ _; decide) hT).mono ?_
 rintro e w' ⟨so', ca', cs, ev, rfl, ⟨h1, h2⟩, hb⟩
 rw [carD_tr, noD_tr, List.map_nil, aw_erS] at h1
 have h3 := congrArg Prod.fst h1
 have h4 := congrArg Prod.snd h1
 simp only at h3 h4
 subst h4
 exact ⟨so', ca', cs, rfl, ⟨h3, h2⟩, hb⟩
theorem tr_parts {d : Dt} {k : Int} {s : ByteArray} (h : d.tr = txT k s) : d.d.k = k ∧ d.d.s = s := by
 cases d with
 | mk d ts =>
  rw [Dt.tr_mk] at h
  injection h with h1 h2 h3 h4
  exact ⟨h1, h4⟩
theorem aw_disp {w : World} {d : Dt} (hd : d.rd w) (hT : Tabs8 w) {k : Int} {s : ByteArray} (h : d.tr = txT k s) (hk : k = 5 ∨ k = 6) (hs : qz qh (txT k s) = true) (h0 : s.size ≠ 0) (h1 : s.size ≤ 1000) : Calls Tryz.prog 70 #[.agg (d.d.cells d.ts.length).toArray] w fun e w2 => e = .returned (.tuple #[.string ⟨(awF d.tr).toArray⟩, .int .i64 0]) ∧ Below w.heap.size w w2 := by
 obtain ⟨e1, e2⟩ := tr_parts h
 have := display_t hd hT (by rw [h]; exact hs) (by rw [e1]; exact hk) (by rw [e2]; exact h0) (by rw [e2]; omega)
 rw [show awF d.tr = d.d.s.data.toList by unfold awF; cases d; rw [Dt.tr_mk]; rfl]
 exact this
theorem aw_tell {w : World} {so : Option Addr} {ca : Nat} {cs : List Sp} (hPs : PR w so cs) (hcs : cs.map Sp.k = K4) (hT : Tabs8 w) : Calls Tryz.prog 24 #[.slice so cs.length ca] w fun e w' => e = .returned (.tuple #[.string ⟨#[97, 115, 115, 101, 114, 116, 105, 111, 110, 32, 105, 110, 32, 99, 97, 114, 58, 32, 110, 111]⟩, .int .i64 0]) ∧ Below w.heap.size w w' := by
 have hlen : cs.length = 4 := by have := congrArg List.length hcs; rw [List.length_map] at this; exact this
 have hb : PB cs := fun p hp => aw_bulk p.k (hcs ▸ List.mem_map_of_mem hp)
 have := tell_ok (ca := ca) (f := awF) (g := awG) hPs (by omega) (by rw [hcs]; exact aw_ck) hb hT (fun d w1 hd _ hor hbw => by
  rw [hcs, aw_fl8, aw_fl1] at hor
  rcases hor with h | h
  ·
   exact aw_disp (Dt.keep hbw _ hd) (hT.below hbw) (Option.some.inj h).symm (.inr rfl) car_s (by decide) (by decide)
  ·
   exact aw_disp (Dt.keep hbw _ hd) (hT.below hbw) (Option.some.inj h).symm (.inl rfl) no_s (by decide) (by decide)) (fun d w1 _ hm _ => by rw [hcs, aw_ir] at hm; cases hm) (by rw [hcs, aw_text]; decide)
 rw [hcs, aw_text] at this
 exact this
theorem aw_eq : decide ((⟨#[97, 115, 115, 101, 114, 116, 105, 111, 110, 32, 105, 110, 32, 99, 97, 114, 58, 32, 110, 111]⟩ : ByteArray) = ⟨#[97, 115, 115, 101, 114, 116, 105, 111, 110, 32, 105, 110, 32, 99, 97, 114, 58, 32, 110, 111]⟩) = true := decide_eq_true rfl
theorem qhi {w : World} (hT : Tabs8 w) : Calls Tryz.prog 12 #[] w fun e w' => e = .returned (.bool true) ∧ Below w.heap.size w w' := by
 have M : Mg w w ([]) := Mg.start w
 refine qr (l := []) Tryz.func12 rfl Tryz.ntmps12 rfl rfl ?_
 intro Q hret hnorm hP a A
 refine wsk fun K1 hK1 => wrl (sda A λa A↦?_)
 refine qa (hK1 _ _ (wsk fun K2 hK2 => wrl (sdo (v := .agg (carD.d.cells carD.ts.length).toArray) A (qn rfl (fun w => by kernel_rfl)) λa A↦?_)))
 refine sdo (v := .agg (noD.d.cells noD.ts.length).toArray) A (qn rfl (fun w => by kernel_rfl)) λa A↦?_
 refine sct A (ef rfl rfl) (aw_err (hT.below M.bel)) ?_
 rintro _ w3 ⟨so5, ca5, cs5, rfl, ⟨hk5, hP5⟩, hb5⟩
 replace M := M.call hb5
 refine ⟨_, rfl, ?_⟩
 intro a A
 refine sdm A λa A↦?_
 iterate 2 refine sdo A (ql (vs := [.slice so5 cs5.length ca5, .int .i64 0]) rfl rfl) λa A↦?_
 iterate 2 refine sda A λa A↦?_
 refine qa (hK2 _ _ (wsk fun K4 hK4 => wrl (sdm A λa A↦?_)))
 refine gcl A M (ef rfl rfl) (aw_tell hP5 hk5 (hT.below M.bel)) fun w5 hb6 M a A => ?_
 refine sdm A λa A↦?_
 iterate 2 refine sdo A (ql (vs := [.string (⟨#[97, 115, 115, 101, 114, 116, 105, 111, 110, 32, 105, 110, 32, 99, 97, 114, 58, 32, 110, 111]⟩), .int .i64 0]) rfl rfl) λa A↦?_
 iterate 2 refine sda A λa A↦?_
 refine qa (hK4 _ _ (wsk fun K6 hK6 => wrl (sdm A λa A↦?_)))
 refine sdo (v := .bool true) A (qg rfl rfl (fun w => by kernel_rfl)) λa A↦?_
 iterate 2 refine sdm A λa A↦?_
 refine sdo (v := .bool true) A (qg rfl rfl (fun w => by kernel_rfl)) λa A↦?_
 refine sdk (v := .bool true) A λa A↦?_
 iterate 2 refine sdm A λa A↦?_
 refine sdo (v := .bool true) A (qg rfl rfl (fun w => (yx Tryz.underlying9 w).trans (by rw [aw_eq] <;> rfl))) λa A↦?_
 refine sdk (v := .bool true) A λa A↦?_
 refine sda A λa A↦?_
 refine qa (hK6 _ _ (wp_ret (hret _ _ (en1 A rfl (qe rfl) ?_))))
 exact ⟨rfl, M.bel⟩
theorem under_b {w : World} {t o : Int} (h : okT 20 t = true) (h2 : okT 20 o = true) {b : Bool} (hb : ke t o = b) : Calls Tryz.prog 10 #[.int .i64 t, .int .i64 o] w fun e w' => e = .returned (.tuple #[.bool b, .int .i64 0]) ∧ Below w.heap.size w w' := by
 have := under_any (w := w) (t := t) (o := o)
 rwa [unS_ok h h2, hb] at this
theorem ck_app {A B : List (Int × List Tr)} (h : ckC (A ++ B) = 0) : ckC A = 0 ∧ ckC B = 0 := by
  obtain ⟨h1, h2⟩ := yk h
  rw [List.length_append] at h1
  exact ⟨ckC_of (by omega) fun k hk => h2 k (List.mem_append_left _ hk), ckC_of (by omega) fun k hk => h2 k (List.mem_append_right _ hk)⟩
theorem find_idx {α : Type} (p : α → Bool) : ∀ l : List α, (match l.findIdx? p with | some i => l[i]? | none => none) = l.find? p
  | [] => rfl
  | a :: l => by
    rw [List.findIdx?_cons, List.find?_cons]
    cases h : p a with
    | true => rfl
    | false =>
      have := find_idx p l
      rw [← this]
      cases l.findIdx? p with
      | none => rfl
      | some i => rfl
/-- What is found, by what is the first. -/
theorem ku {K : List (Int × List Tr)} {t : Int} (h : ckC K = 0) (ht : okT 20 t = true) : fdS K t = match K.find? (fun k => ke k.1 t) with | some k => (k, 0) | none => ((0, []), 7) := by
  have h1 := find_idx (fun k : Int × List Tr => ke k.1 t) K
  rw [← h1]
  cases e : K.findIdx? (fun k => ke k.1 t) with
  | none =>
    rw [qea h ht (by unfold fdI ixG; rw [e]; decide)]
  | some i =>
    obtain ⟨hi, h2, _⟩ := List.findIdx?_eq_some_iff_getElem.1 e
    have e1 : fdI K t = ((i : Nat) : Int) := by unfold fdI ixG; rw [e]
    have e2 : K[i]? = some K[i] := List.getElem?_eq_getElem hi
    rw [qje h ht (by rw [e1]; omega) (by rw [e1, Int.toNat_natCast]; exact e2)]
    show _ = match K[i]? with | some k => (k, (0 : Int)) | none => ((0, []), 7)
    rw [e2]
theorem fd_app {A B : List (Int × List Tr)} {t : Int} (h : ckC (A ++ B) = 0) : fdS (A ++ B) t = if (fdS A t).2 = 0 then fdS A t else fdS B t := by
  obtain ⟨ha, hb⟩ := ck_app h
  cases ht : okT 20 t with
  | false => rw [qdj h ht, qdj ha ht, qdj hb ht, if_neg (by decide)]
  | true =>
    rw [ku h ht, ku ha ht, ku hb ht, List.find?_append]
    cases e : A.find? (fun k => ke k.1 t) with
    | none => rfl
    | some k => rfl
theorem fd_zero {K : List (Int × List Tr)} {t : Int} (h : (fdS K t).2 = 0) : okT 20 t = true ∧ okT 20 (fdS K t).1.1 = true ∧ ke (fdS K t).1.1 t = true := by
  by_cases hc : ckC K = 0
  · cases ht : okT 20 t with
    | false => rw [qdj hc ht] at h; cases h
    | true =>
      rw [ku hc ht] at h ⊢
      cases e : K.find? (fun k => ke k.1 t) with
      | none => rw [e] at h; cases h
      | some k => exact ⟨rfl, (qdi ((yk hc).2 k (List.mem_of_find?_eq_some e))).1, (List.find?_some e : _)⟩
  · rw [qjd hc] at h; exact absurd h hc
theorem fd_len {K : List (Int × List Tr)} {t : Int} : (fdS K t).1.2.length ≤ 2 := by
  by_cases hc : ckC K = 0
  · cases ht : okT 20 t with
    | false => rw [qdj hc ht]; decide
    | true =>
      rw [ku hc ht]
      cases e : K.find? (fun k => ke k.1 t) with
      | none => show 0 ≤ 2; decide
      | some k =>
        obtain ⟨h1, h2, _⟩ := qdi ((yk hc).2 k (List.mem_of_find?_eq_some e))
        have := cnt_rng h1
        show k.2.length ≤ 2
        omega
  · rw [qjd hc]; show 0 ≤ 2; decide
theorem sp_vs {p : Sp} {k : Int × List Tr} (h : p.k = k) : p.vs.length = k.2.length := by rw [← h]; exact (List.length_map _).symm
end Go.Proofs.YtdpakekdbkpdfaaGreatDoor.G
namespace Go.Proofs.YtdpakekdbkpdfaaGreatDoor
open Go.RowKit
set_option linter.unusedVariables false
set_option linter.unusedSimpArgs false
set_option maxRecDepth 100000
theorem EqO_fld_50_0 : FieldAt Tryz.prog 50 0 0 := ⟨_, _, Tryz.underlying50, rfl, rfl, by kernel_rfl⟩
theorem EqO_fld_50_1 : FieldAt Tryz.prog 50 1 3 := ⟨_, _, Tryz.underlying50, rfl, rfl, by kernel_rfl⟩
theorem EqO_isS_48 : IsS Tryz.prog 48 3 := ⟨⟨_, Tryz.underlying48⟩, by kernel_rfl⟩
theorem alikeQ_any {w : World} {p q : Q6} {a1 a2 a3 a4 : Option Addr} {ac1 ac2 ac3 ac4 : Nat} (ha : Nm w p a1 ac1 a2 ac2 a3 ac3 a4 ac4) (hl : LenQ p) {u1 u2 u3 u4 : Option Addr} {uc1 uc2 uc3 uc4 : Nat} (hu : Nm w q u1 uc1 u2 uc2 u3 uc3 u4 uc4) (hm : LenQ q) {r : Bool} (hr : (xk p.b1 p.t1 p.q1 q.b1 q.t1 q.q1 && xk p.b2 p.t2 p.q2 q.b2 q.t2 q.q2) = r) : Calls Tryz.prog 68 #[numV p a1 ac1 a2 ac2 a3 ac3 a4 ac4, numV q u1 uc1 u2 uc2 u3 uc3 u4 uc4] w fun e w' => e = .returned (.bool r) ∧ Below w.heap.size w w' := by
 have S : St w w [] [(u4, q.q2), (u3, q.t2), (u2, q.q1), (u1, q.t1), (a4, p.q2), (a3, p.t2), (a2, p.q1), (a1, p.t1)] [] := ((((((((St.start w).addR ha.s1.rd).addR ha.s2.rd).addR ha.s3.rd).addR ha.s4.rd).addR hu.s1.rd).addR hu.s2.rd).addR hu.s3.rd).addR hu.s4.rd
 refine qr (l := [(0, .agg #[.bool p.b1, .slice a1 p.t1.length ac1, .slice a2 p.q1.length ac2, .bool p.b2, .slice a3 p.t2.length ac3, .slice a4 p.q2.length ac4]), (1, .agg #[.bool q.b1, .slice u1 q.t1.length uc1, .slice u2 q.q1.length uc2, .bool q.b2, .slice u3 q.t2.length uc3, .slice u4 q.q2.length uc4])]) Tryz.func68 rfl Tryz.ntmps68 rfl rfl ?_
 intro Q hret hnorm hP a A
 refine wsk fun K1 hK1 => wrl (qca A S rfl rfl rfl pg (zd rfl rfl) rfl ?_)
 intro g2 w3 S a A
 refine qca A S rfl rfl rfl pg (zd rfl rfl) rfl ?_
 intro g4 w5 S a A
 refine sda A λa A↦?_
 refine qa (hK1 _ _ (wsk fun K6 hK6 => wrl (sdo (v := .pointer (some ⟨g2, 0, none⟩)) A (qb EqO_fld_50_0 rfl rfl) λa A↦?_)))
 refine sdo A (vw S EqO_isS_48 rfl 1 rfl (cs := [.bool p.b1, .slice a1 p.t1.length ac1, .slice a2 p.q1.length ac2]) rfl rfl) λa A↦?_
 refine sdo (v := .pointer (some ⟨g4, 0, none⟩)) A (qb EqO_fld_50_0 rfl rfl) λa A↦?_
 refine sdo A (vw S EqO_isS_48 rfl 0 rfl (cs := [.bool q.b1, .slice u1 q.t1.length uc1, .slice u2 q.q1.length uc2]) rfl rfl) λa A↦?_
 rcases tf (xk p.b1 p.t1 p.q1 q.b1 q.t1 q.q1) with hb7 | hb7
 ·
  refine sct A (ef rfl rfl) (vk ⟨(S.rd 7 rfl), ha.s1.nil, ha.s1.cap⟩ ⟨(S.rd 6 rfl), ha.s2.nil, ha.s2.cap⟩ ⟨(S.rd 3 rfl), hu.s1.nil, hu.s1.cap⟩ ⟨(S.rd 2 rfl), hu.s2.nil, hu.s2.cap⟩ hl.l1 hl.l2 hm.l1 hm.l2 hb7) ?_
  rintro _ w9 ⟨rfl, hb8⟩
  replace S := S.call hb8
  refine ⟨_, rfl, ?_⟩
  intro a A
  refine sdm A λa A↦?_
  refine sdo (v := .pointer (some ⟨g2, 3, none⟩)) A (qb EqO_fld_50_1 rfl rfl) λa A↦?_
  refine sdo A (vw S EqO_isS_48 rfl 1 rfl (cs := [.bool p.b2, .slice a3 p.t2.length ac3, .slice a4 p.q2.length ac4]) rfl rfl) λa A↦?_
  refine sdo (v := .pointer (some ⟨g4, 3, none⟩)) A (qb EqO_fld_50_1 rfl rfl) λa A↦?_
  refine sdo A (vw S EqO_isS_48 rfl 0 rfl (cs := [.bool q.b2, .slice u3 q.t2.length uc3, .slice u4 q.q2.length uc4]) rfl rfl) λa A↦?_
  rcases tf (xk p.b2 p.t2 p.q2 q.b2 q.t2 q.q2) with hb10 | hb10
  ·
   refine sct A (ef rfl rfl) (vk ⟨(S.rd 5 rfl), ha.s3.nil, ha.s3.cap⟩ ⟨(S.rd 4 rfl), ha.s4.nil, ha.s4.cap⟩ ⟨(S.rd 1 rfl), hu.s3.nil, hu.s3.cap⟩ ⟨(S.rd 0 rfl), hu.s4.nil, hu.s4.cap⟩ hl.l3 hl.l4 hm.l3 hm.l4 hb10) ?_
   rintro _ w12 ⟨rfl, hb11⟩
   replace S := S.call hb11
   refine ⟨_, rfl, ?_⟩
   intro a A
   refine sdk (v := .bool true) A λa A↦?_
   refine sda A λa A↦?_
   refine qa (hK6 _ _ (wp_ret (hret _ _ (en1 A rfl (qe rfl) ?_))))
   subst hr
   exact ⟨by rw [hb7, hb10]; try rfl, S.bel⟩
  ·
   refine sct A (ef rfl rfl) (vk ⟨(S.rd 5 rfl), ha.s3.nil, ha.s3.cap⟩ ⟨(S.rd 4 rfl), ha.s4.nil, ha.s4.cap⟩ ⟨(S.rd 1 rfl), hu.s3.nil, hu.s3.cap⟩ ⟨(S.rd 0 rfl), hu.s4.nil, hu.s4.cap⟩ hl.l3 hl.l4 hm.l3 hm.l4 hb10) ?_
   rintro _ w14 ⟨rfl, hb13⟩
   replace S := S.call hb13
   refine ⟨_, rfl, ?_⟩
   intro a A
   refine sdk (v := .bool false) A λa A↦?_
   refine sda A λa A↦?_
   refine qa (hK6 _ _ (wp_ret (hret _ _ (en1 A rfl (qe rfl) ?_))))
   subst hr
   exact ⟨by rw [hb7, hb10]; try rfl, S.bel⟩
 ·
  refine sct A (ef rfl rfl) (vk ⟨(S.rd 7 rfl), ha.s1.nil, ha.s1.cap⟩ ⟨(S.rd 6 rfl), ha.s2.nil, ha.s2.cap⟩ ⟨(S.rd 3 rfl), hu.s1.nil, hu.s1.cap⟩ ⟨(S.rd 2 rfl), hu.s2.nil, hu.s2.cap⟩ hl.l1 hl.l2 hm.l1 hm.l2 hb7) ?_
  rintro _ w16 ⟨rfl, hb15⟩
  replace S := S.call hb15
  refine ⟨_, rfl, ?_⟩
  intro a A
  refine sdm A λa A↦?_
  iterate 5 refine qt A rfl rfl rfl λa A↦?_
  refine sdk (v := .bool false) A λa A↦?_
  refine sda A λa A↦?_
  refine qa (hK6 _ _ (wp_ret (hret _ _ (en1 A rfl (qe rfl) ?_))))
  subst hr
  exact ⟨by rw [hb7]; try rfl, S.bel⟩

end Go.Proofs.YtdpakekdbkpdfaaGreatDoor
namespace Go.Proofs.YtdpakekdbkpdfaaGreatDoor.G
open Go.RowKit
set_option linter.unusedVariables false
set_option linter.unusedSimpArgs false
/-! ### The same trees, by the document -/
mutual
def kk : Tr → Tr → Bool
  | .mk k n q s rl ts, u => (decide (k = u.k) && (decide (n = u.n) && (decide (s = u.s) && (decide (rl = u.rl) && (xk q.b1 q.t1 q.q1 u.q.b1 u.q.t1 u.q.q1 && xk q.b2 q.t2 q.q2 u.q.b2 u.q.t2 u.q.q2))))) && (decide (ts.length = u.ts.length) && xx ts u.ts)
def xx : List Tr → List Tr → Bool
  | [], _ => true
  | _ :: _, [] => true
  | t :: ts, u :: us => kk t u && xx ts us
end
theorem sameF_iff {b b' : Bool} {t q t' q' : List Nat} : xk b t q b' t' q' = true ↔ b = b' ∧ t = t' ∧ q = q' := by
  unfold xk
  simp
theorem sameT_mk (k n : Int) (q : Q6) (s : ByteArray) (rl : List UInt8) (ts : List Tr) (k' n' : Int) (q' : Q6) (s' : ByteArray) (rl' : List UInt8) (ts' : List Tr) : kk (.mk k n q s rl ts) (.mk k' n' q' s' rl' ts') = true ↔ k = k' ∧ n = n' ∧ q = q' ∧ s = s' ∧ rl = rl' ∧ ts.length = ts'.length ∧ xx ts ts' = true := by
  rw [kk]
  show ((decide (k = k') && (decide (n = n') && (decide (s = s') && (decide (rl = rl') && (xk q.b1 q.t1 q.q1 q'.b1 q'.t1 q'.q1 && xk q.b2 q.t2 q.q2 q'.b2 q'.t2 q'.q2))))) && (decide (ts.length = ts'.length) && xx ts ts')) = true ↔ _
  simp only [Bool.and_eq_true, decide_eq_true_eq, sameF_iff]
  constructor
  · rintro ⟨⟨a, b, c, d, ⟨e1, e2, e3⟩, f1, f2, f3⟩, g, h⟩
    refine ⟨a, b, ?_, c, d, g, h⟩
    cases q; cases q'
    simp_all
  · rintro ⟨a, b, c, d, e, f, g⟩
    subst c
    exact ⟨⟨a, b, d, e, ⟨rfl, rfl, rfl⟩, rfl, rfl, rfl⟩, f, g⟩
theorem sameL_eq {ts : List Tr} (h : ∀ t ∈ ts, ∀ u, kk t u = true ↔ t = u) : ∀ us : List Tr, ts.length = us.length → (xx ts us = true ↔ ts = us) := by
  induction ts with
  | nil =>
    intro us hl
    cases us with
    | nil => simp [xx]
    | cons u us => simp at hl
  | cons t ts ih =>
    intro us hl
    cases us with
    | nil => simp at hl
    | cons u us =>
      rw [xx, Bool.and_eq_true, h t List.mem_cons_self u, ih (fun x hx => h x (List.mem_cons_of_mem _ hx)) us (by simpa using hl)]
      simp
theorem sameT_eq : ∀ t u : Tr, kk t u = true ↔ t = u := by
  refine Tr.indT fun k n q s rl ts ih u => ?_
  obtain ⟨k', n', q', s', rl', ts'⟩ := u
  rw [sameT_mk]
  constructor
  · rintro ⟨a, b, c, d, e, f, g⟩
    rw [a, b, c, d, e, (sameL_eq ih ts' f).1 g]
  · intro h
    cases h
    exact ⟨rfl, rfl, rfl, rfl, rfl, rfl, (sameL_eq ih ts rfl).2 rfl⟩
theorem sameL_go {ts us : List Dt} {i : Nat} {t u : Dt} (hi : ts[i]? = some t) (hj : us[i]? = some u) : xx ((ts.map Dt.tr).drop i) ((us.map Dt.tr).drop i) = (kk t.tr u.tr && xx ((ts.map Dt.tr).drop (i + 1)) ((us.map Dt.tr).drop (i + 1))) := by
  rw [ko hi, ko hj, xx]
theorem sameL_end {ts us : List Dt} {i : Nat} (h : ¬ i < ts.length) : xx ((ts.map Dt.tr).drop i) ((us.map Dt.tr).drop i) = true := by
  rw [un h, xx]
theorem sameT_at (p r : Dt) : kk p.tr r.tr = ((decide (p.d.k = r.d.k) && (decide (p.d.n = r.d.n) && (decide (p.d.s = r.d.s) && (decide (p.d.rl = r.d.rl) && (xk p.d.y.q.b1 p.d.y.q.t1 p.d.y.q.q1 r.d.y.q.b1 r.d.y.q.t1 r.d.y.q.q1 && xk p.d.y.q.b2 p.d.y.q.t2 p.d.y.q.q2 r.d.y.q.b2 r.d.y.q.t2 r.d.y.q.q2))))) && (decide (p.ts.length = r.ts.length) && xx (p.ts.map Dt.tr) (r.ts.map Dt.tr))) := by
  rw [Dt.tr_eta p, Dt.tr_eta r, kk, List.length_map]
  show _ = (_ && (decide (p.ts.length = r.ts.length) && _))
  rw [show (Tr.mk r.d.k r.d.n r.d.y.q r.d.s r.d.rl (r.ts.map Dt.tr)).ts.length = r.ts.length from List.length_map _]
  rfl
def SQ2 (p r : Dt) : Bool := xk p.d.y.q.b1 p.d.y.q.t1 p.d.y.q.q1 r.d.y.q.b1 r.d.y.q.t1 r.d.y.q.q1 && xk p.d.y.q.b2 p.d.y.q.t2 p.d.y.q.q2 r.d.y.q.b2 r.d.y.q.t2 r.d.y.q.q2
theorem ki {p r : Dt} (h : p.d.k ≠ r.d.k ∨ p.d.n ≠ r.d.n ∨ p.d.s ≠ r.d.s ∨ p.d.rl ≠ r.d.rl ∨ p.ts.length ≠ r.ts.length ∨ SQ2 p r = false) : kk p.tr r.tr = false := by
  rw [sameT_at]
  unfold SQ2 at h
  rcases h with h | h | h | h | h | h <;> simp [h]
theorem same_yes {p r : Dt} (h1 : p.d.k = r.d.k) (h2 : p.d.n = r.d.n) (h3 : p.d.s = r.d.s) (h4 : p.d.rl = r.d.rl) (h5 : p.ts.length = r.ts.length) (h6 : SQ2 p r = true) : kk p.tr r.tr = xx (p.ts.map Dt.tr) (r.ts.map Dt.tr) := by
  rw [sameT_at]
  unfold SQ2 at h6
  rw [decide_eq_true h1, decide_eq_true h2, decide_eq_true h3, decide_eq_true h4, decide_eq_true h5, h6]
  simp
theorem bytes_ext {a b : List UInt8} (hl : a.length = b.length) (h : ∀ j, j < a.length → a.getD j 0 = b.getD j 0) : a = b := by
  apply List.ext_getElem hl
  intro j h1 h2
  have := h j h1
  rwa [show a.getD j 0 = a[j] from by simp [List.getD, List.getElem?_eq_getElem h1], show b.getD j 0 = b[j] from by simp [List.getD, List.getElem?_eq_getElem h2]] at this
theorem ne_at {a b : List UInt8} {i : Nat} (h : (((a.getD i 0).toNat : Nat) : Int) ≠ (((b.getD i 0).toNat : Nat) : Int)) : a ≠ b := fun e => h (by rw [e])
theorem eq_at {a b : UInt8} (h : ((a.toNat : Nat) : Int) = ((b.toNat : Nat) : Int)) : a = b := UInt8.toNat_inj.1 (by omega)
set_option maxRecDepth 100000
open Go.Lib
theorem rb_open {w : World} {so : Option Addr} {l : List UInt8} {i : Nat} (h : Rb w so l) (hi : i < l.length) : ∃ b off, so = some ⟨b, off, none⟩ ∧ b < w.heap.size ∧ ∀ j, j < l.length → w.cell? ⟨b, off + j, none⟩ = some (.int .u8 (((l.getD j 0).toNat : Nat) : Int)) :=
 h.pos (fun k => by rw [k] at hi; exact absurd hi (Nat.not_lt_zero _))
open Go.RowKit Go.Lib
section
variable {P : Program} {w0 w : World} {L : List Ck} {l : List (Nat × Value)} {dst : Option Tmp} {ty : TypeId} {pos : String} {after : Array Edge} {guard : Option (Nat × Bool)} {v : Value}
end
section
variable {P : Program} {w0 w : World} {L : List Ck} {l : List (Nat × Value)} {ops : List Oper} {Q : Exit → Act → World → Prop} {a : Act} {n : Nat} {rest : List Oper} {d : Nat} {dst : Option Tmp} {ty : TypeId} {pos : String} {after : Array Edge} {guard : Option (Nat × Bool)}
end
/-! ### Encode -/
section
variable {k n : Int} {q : Q6} {s : ByteArray} {mr ml : Nat}
end

theorem LiS_is1_3 : Is1 Tryz.prog 3 := ⟨⟨_, Tryz.underlying3, rfl⟩, by kernel_rfl⟩
theorem LiS_is1_39 : Is1 Tryz.prog 39 := ⟨⟨_, Tryz.underlying39, rfl⟩, by kernel_rfl⟩
theorem LiS_is1_5 : Is1 Tryz.prog 5 := ⟨⟨_, Tryz.underlying5, rfl⟩, by kernel_rfl⟩
theorem LiS_is1_51 : Is1 Tryz.prog 51 := ⟨⟨_, Tryz.underlying51, rfl⟩, by kernel_rfl⟩
theorem LiS_is1_9 : Is1 Tryz.prog 9 := ⟨⟨_, Tryz.underlying9, rfl⟩, by kernel_rfl⟩
theorem LiS_fld_53_0 : FieldAt Tryz.prog 53 0 0 := ⟨_, _, Tryz.underlying53, rfl, rfl, by kernel_rfl⟩
theorem LiS_fld_53_1 : FieldAt Tryz.prog 53 1 1 := ⟨_, _, Tryz.underlying53, rfl, rfl, by kernel_rfl⟩
theorem LiS_fld_53_2 : FieldAt Tryz.prog 53 2 2 := ⟨_, _, Tryz.underlying53, rfl, rfl, by kernel_rfl⟩
theorem LiS_fld_53_3 : FieldAt Tryz.prog 53 3 8 := ⟨_, _, Tryz.underlying53, rfl, rfl, by kernel_rfl⟩
theorem LiS_fld_53_4 : FieldAt Tryz.prog 53 4 9 := ⟨_, _, Tryz.underlying53, rfl, rfl, by kernel_rfl⟩
theorem LiS_fld_53_5 : FieldAt Tryz.prog 53 5 10 := ⟨_, _, Tryz.underlying53, rfl, rfl, by kernel_rfl⟩
theorem LiS_isS_50 : IsS Tryz.prog 50 6 := ⟨⟨_, Tryz.underlying50⟩, by kernel_rfl⟩
theorem LiS_isS_53 : IsS Tryz.prog 53 11 := ⟨⟨_, Tryz.underlying53⟩, by kernel_rfl⟩
theorem qfd {w : World} {t u : Dt} (ht : t.rd w) (hu : u.rd w) {b : Bool} (h : SQ2 t u = b) : Calls Tryz.prog 68 #[t.d.y.val, u.d.y.val] w fun e w' => e = .returned (.bool b) ∧ Below w.heap.size w w' := alikeQ_any (Dt.okT ht).1.num (Dt.okT ht).1.len (Dt.okT hu).1.num (Dt.okT hu).1.len h
def RSames (n : Nat) : Prop := ∀ {w : World} {t u : Dt}, t.tr.bulk < n → t.rd w → u.rd w → Calls Tryz.prog 42 #[.agg (t.d.cells t.ts.length).toArray, .agg (u.d.cells u.ts.length).toArray] w fun e w' => e = .returned (.bool (kk t.tr u.tr)) ∧ Below w.heap.size w w'
set_option maxHeartbeats 1000000 in
theorem rsames_step {n : Nat} (ih : RSames n) : RSames (n + 1) := by
 intro w t u hn ht hu
 have hlt := (Dt.okT ht).2
 have hrt : t.d.rl.length ≤ 9223372036854775807 := Nat.le_trans (Dt.okT ht).1.rcap (Dt.okT ht).1.rmax
 have M : Mg w w ([]) := Mg.start w
 refine qr (l := [(0, .agg (t.d.cells t.ts.length).toArray), (1, .agg (u.d.cells u.ts.length).toArray)]) Tryz.func42 rfl Tryz.ntmps42 rfl rfl ?_
 intro Q hret hnorm hP a A
 refine wsk fun K1 hK1 => wrl (zg (vs := (t.d.cells t.ts.length)) (t := 53) A M rfl rfl rfl pg (zd rfl rfl) (by decide) ?_)
 intro g2 w3 M a A
 refine zg (vs := (u.d.cells u.ts.length)) (t := 53) A M rfl rfl rfl pg (zd rfl rfl) (by decide) ?_
 intro g4 w5 M a A
 refine sda A λa A↦?_
 refine qa (hK1 _ _ (wsk fun K6 hK6 => wsk fun K7 hK7 => wrl (sdo (v := .pointer (some ⟨g2, 0, none⟩)) A (qb LiS_fld_53_0 rfl rfl) λa A↦?_)))
 refine sdo A (qi M LiS_is1_3 rfl 1 rfl rfl) λa A↦?_
 refine sdo (v := .pointer (some ⟨g4, 0, none⟩)) A (qb LiS_fld_53_0 rfl rfl) λa A↦?_
 refine sdo A (qi M LiS_is1_3 rfl 0 rfl rfl) λa A↦?_
 rcases tf ((t.d.k != u.d.k)) with hb8 | hb8
 ·
  have hb8' := bne_iff_ne.1 hb8
  refine sdc A zm hb8 λa A↦?_
  refine sdm A λa A↦?_
  iterate 5 refine qt A rfl rfl rfl λa A↦?_
  refine sdk (v := .bool true) A λa A↦?_
  refine sdm A λa A↦?_
  iterate 5 refine qt A rfl rfl rfl λa A↦?_
  refine sdk (v := .bool true) A λa A↦?_
  refine sdm A λa A↦?_
  iterate 7 refine qt A rfl rfl rfl λa A↦?_
  refine sdk (v := .bool true) A λa A↦?_
  refine sdm A λa A↦?_
  iterate 7 refine qt A rfl rfl rfl λa A↦?_
  refine sdk (v := .bool true) A λa A↦?_
  refine sdm A λa A↦?_
  iterate 6 refine qt A rfl rfl rfl λa A↦?_
  refine sdk (v := .bool true) A λa A↦?_
  refine qa (hK7 _ _ (wp_cond_true (A.ev rfl) ?_))
  refine wsk fun K9 hK9 => wrl (sda A λa A↦?_)
  refine qa (hK9 _ _ (wp_ret (hret _ _ (en1 A rfl (qe rfl) ?_))))
  exact ⟨by rw [ki (.inl hb8')], M.bel⟩
 ·
  have hb8' := bne_eq_false_iff_eq.1 hb8
  refine sdc A zm hb8 λa A↦?_
  refine sdm A λa A↦?_
  refine sdo (v := .pointer (some ⟨g2, 1, none⟩)) A (qb LiS_fld_53_1 rfl rfl) λa A↦?_
  refine sdo A (qi M LiS_is1_3 rfl 1 rfl rfl) λa A↦?_
  refine sdo (v := .pointer (some ⟨g4, 1, none⟩)) A (qb LiS_fld_53_1 rfl rfl) λa A↦?_
  refine sdo A (qi M LiS_is1_3 rfl 0 rfl rfl) λa A↦?_
  rcases tf ((t.d.n != u.d.n)) with hb10 | hb10
  ·
   have hb10' := bne_iff_ne.1 hb10
   refine sdc A zm hb10 λa A↦?_
   refine sdk (v := .bool true) A λa A↦?_
   refine sdm A λa A↦?_
   iterate 5 refine qt A rfl rfl rfl λa A↦?_
   refine sdk (v := .bool true) A λa A↦?_
   refine sdm A λa A↦?_
   iterate 7 refine qt A rfl rfl rfl λa A↦?_
   refine sdk (v := .bool true) A λa A↦?_
   refine sdm A λa A↦?_
   iterate 7 refine qt A rfl rfl rfl λa A↦?_
   refine sdk (v := .bool true) A λa A↦?_
   refine sdm A λa A↦?_
   iterate 6 refine qt A rfl rfl rfl λa A↦?_
   refine sdk (v := .bool true) A λa A↦?_
   refine qa (hK7 _ _ (wp_cond_true (A.ev rfl) ?_))
   refine wsk fun K11 hK11 => wrl (sda A λa A↦?_)
   refine qa (hK11 _ _ (wp_ret (hret _ _ (en1 A rfl (qe rfl) ?_))))
   exact ⟨by rw [ki (.inr (.inl hb10'))], M.bel⟩
  ·
   have hb10' := bne_eq_false_iff_eq.1 hb10
   refine sdc A zm hb10 λa A↦?_
   refine sdk (v := .bool false) A λa A↦?_
   refine sdm A λa A↦?_
   refine sdo (v := .pointer (some ⟨g2, 8, none⟩)) A (qb LiS_fld_53_3 rfl rfl) λa A↦?_
   refine sdo A (qi M LiS_is1_9 rfl 1 rfl rfl) λa A↦?_
   refine sdo (v := .pointer (some ⟨g4, 8, none⟩)) A (qb LiS_fld_53_3 rfl rfl) λa A↦?_
   refine sdo A (qi M LiS_is1_9 rfl 0 rfl rfl) λa A↦?_
   rcases tf (decide (t.d.s = u.d.s)) with hb12 | hb12
   ·
    have hb12' := of_decide_eq_true hb12
    refine sdo (v := .bool false) A (qg rfl rfl (fun w => (qld Tryz.underlying9 w).trans (by rw [hb12] <;> rfl))) λa A↦?_
    refine sdk (v := .bool false) A λa A↦?_
    refine sdm A λa A↦?_
    refine sdo (v := .pointer (some ⟨g2, 9, none⟩)) A (qb LiS_fld_53_4 rfl rfl) λa A↦?_
    refine sdo A (qi M LiS_is1_51 rfl 1 rfl rfl) λa A↦?_
    refine sdo A (ze Tryz.underlying51 rfl) λa A↦?_
    refine sdo (v := .pointer (some ⟨g4, 9, none⟩)) A (qb LiS_fld_53_4 rfl rfl) λa A↦?_
    refine sdo A (qi M LiS_is1_51 rfl 0 rfl rfl) λa A↦?_
    refine sdo A (ze Tryz.underlying51 rfl) λa A↦?_
    rcases tf ((((t.d.rl.length : Nat) : Int) != ((u.d.rl.length : Nat) : Int))) with hb13 | hb13
    ·
     have hb13' := bne_iff_ne.1 hb13
     refine sdc A zm hb13 λa A↦?_
     refine sdk (v := .bool true) A λa A↦?_
     refine sdm A λa A↦?_
     iterate 7 refine qt A rfl rfl rfl λa A↦?_
     refine sdk (v := .bool true) A λa A↦?_
     refine sdm A λa A↦?_
     iterate 6 refine qt A rfl rfl rfl λa A↦?_
     refine sdk (v := .bool true) A λa A↦?_
     refine qa (hK7 _ _ (wp_cond_true (A.ev rfl) ?_))
     refine wsk fun K14 hK14 => wrl (sda A λa A↦?_)
     refine qa (hK14 _ _ (wp_ret (hret _ _ (en1 A rfl (qe rfl) ?_))))
     exact ⟨by rw [ki (.inr (.inr (.inr (.inl (fun e => hb13' (by rw [e]))))))], M.bel⟩
    ·
     have hb13' := bne_eq_false_iff_eq.1 hb13
     refine sdc A zm hb13 λa A↦?_
     refine sdk (v := .bool false) A λa A↦?_
     refine sdm A λa A↦?_
     refine sdo (v := .pointer (some ⟨g2, 10, none⟩)) A (qb LiS_fld_53_5 rfl rfl) λa A↦?_
     refine sdo A (qi M LiS_is1_39 rfl 1 rfl rfl) λa A↦?_
     refine sdo A (ze Tryz.underlying39 rfl) λa A↦?_
     refine sdo (v := .pointer (some ⟨g4, 10, none⟩)) A (qb LiS_fld_53_5 rfl rfl) λa A↦?_
     refine sdo A (qi M LiS_is1_39 rfl 0 rfl rfl) λa A↦?_
     refine sdo A (ze Tryz.underlying39 rfl) λa A↦?_
     rcases tf ((((t.ts.length : Nat) : Int) != ((u.ts.length : Nat) : Int))) with hb15 | hb15
     ·
      have hb15' := bne_iff_ne.1 hb15
      refine sdc A zm hb15 λa A↦?_
      refine sdk (v := .bool true) A λa A↦?_
      refine sdm A λa A↦?_
      iterate 6 refine qt A rfl rfl rfl λa A↦?_
      refine sdk (v := .bool true) A λa A↦?_
      refine qa (hK7 _ _ (wp_cond_true (A.ev rfl) ?_))
      refine wsk fun K16 hK16 => wrl (sda A λa A↦?_)
      refine qa (hK16 _ _ (wp_ret (hret _ _ (en1 A rfl (qe rfl) ?_))))
      exact ⟨by rw [ki (.inr (.inr (.inr (.inr (.inl (fun e => hb15' (by rw [e])))))))], M.bel⟩
     ·
      have hb15' := bne_eq_false_iff_eq.1 hb15
      refine sdc A zm hb15 λa A↦?_
      refine sdk (v := .bool false) A λa A↦?_
      refine sdm A λa A↦?_
      refine sdo (v := .pointer (some ⟨g2, 2, none⟩)) A (qb LiS_fld_53_2 rfl rfl) λa A↦?_
      refine sdo A (za M LiS_isS_50 rfl 1 rfl (cs := [.bool t.d.y.q.b1, .slice t.d.y.o1 t.d.y.q.t1.length t.d.y.c1, .slice t.d.y.o2 t.d.y.q.q1.length t.d.y.c2, .bool t.d.y.q.b2, .slice t.d.y.o3 t.d.y.q.t2.length t.d.y.c3, .slice t.d.y.o4 t.d.y.q.q2.length t.d.y.c4]) rfl rfl) λa A↦?_
      refine sdo (v := .pointer (some ⟨g4, 2, none⟩)) A (qb LiS_fld_53_2 rfl rfl) λa A↦?_
      refine sdo A (za M LiS_isS_50 rfl 0 rfl (cs := [.bool u.d.y.q.b1, .slice u.d.y.o1 u.d.y.q.t1.length u.d.y.c1, .slice u.d.y.o2 u.d.y.q.q1.length u.d.y.c2, .bool u.d.y.q.b2, .slice u.d.y.o3 u.d.y.q.t2.length u.d.y.c3, .slice u.d.y.o4 u.d.y.q.q2.length u.d.y.c4]) rfl rfl) λa A↦?_
      rcases tf (SQ2 t u) with hb17 | hb17
      ·
       refine gcl A M (ef rfl rfl) (qfd (Dt.keep M.bel _ ht) (Dt.keep M.bel _ hu) hb17) fun w19 hb18 M a A => ?_
       refine sdo (v := .bool false) A (zb rfl zn) λa A↦?_
       refine sdk (v := .bool false) A λa A↦?_
       refine qa (hK7 _ _ (wp_cond_false (A.ev rfl) ?_))
       refine wp_skip (hK6 _ _ (wsk fun K20 hK20 => wsk fun K21 hK21 => wrl (sda A λa A↦?_)))
       refine qa (hK21 _ _ (wp_block (ja (fun m_ a w1 => ∃ (i : Nat), m_ = 1 + (t.d.rl.length - i) ∧ (i ≤ t.d.rl.length ∧ ∀ j, j < i → t.d.rl.getD j 0 = u.d.rl.getD j 0) ∧ Sl a 89 [(0, .agg (t.d.cells t.ts.length).toArray), (1, .agg (u.d.cells u.ts.length).toArray), (2, .pointer (some ⟨g2, 0, none⟩)), (3, .pointer (some ⟨g4, 0, none⟩)), (5, .int .i64 (((i : Nat) : Int))), (7, .pointer (some ⟨g2, 0, none⟩)), (8, .int .i64 t.d.k), (9, .pointer (some ⟨g4, 0, none⟩)), (10, .int .i64 u.d.k), (11, .bool false), (12, .bool false), (13, .pointer (some ⟨g2, 1, none⟩)), (14, .int .i64 t.d.n), (15, .pointer (some ⟨g4, 1, none⟩)), (16, .int .i64 u.d.n), (17, .bool false), (18, .bool false), (19, .bool false), (20, .pointer (some ⟨g2, 8, none⟩)), (21, .string t.d.s), (22, .pointer (some ⟨g4, 8, none⟩)), (23, .string u.d.s), (24, .bool false), (25, .bool false), (26, .bool false), (27, .pointer (some ⟨g2, 9, none⟩)), (28, .slice t.d.ro t.d.rl.length t.d.rc), (29, .int .i64 (((t.d.rl.length : Nat) : Int))), (30, .pointer (some ⟨g4, 9, none⟩)), (31, .slice u.d.ro u.d.rl.length u.d.rc), (32, .int .i64 (((u.d.rl.length : Nat) : Int))), (33, .bool false), (34, .bool false), (35, .bool false), (36, .pointer (some ⟨g2, 10, none⟩)), (37, .slice t.d.lo t.ts.length t.d.lc), (38, .int .i64 (((t.ts.length : Nat) : Int))), (39, .pointer (some ⟨g4, 10, none⟩)), (40, .slice u.d.lo u.ts.length u.d.lc), (41, .int .i64 (((u.ts.length : Nat) : Int))), (42, .bool false), (43, .bool false), (44, .bool false), (45, .pointer (some ⟨g2, 2, none⟩)), (46, .agg #[.bool t.d.y.q.b1, .slice t.d.y.o1 t.d.y.q.t1.length t.d.y.c1, .slice t.d.y.o2 t.d.y.q.q1.length t.d.y.c2, .bool t.d.y.q.b2, .slice t.d.y.o3 t.d.y.q.t2.length t.d.y.c3, .slice t.d.y.o4 t.d.y.q.q2.length t.d.y.c4]), (47, .pointer (some ⟨g4, 2, none⟩)), (48, .agg #[.bool u.d.y.q.b1, .slice u.d.y.o1 u.d.y.q.t1.length u.d.y.c1, .slice u.d.y.o2 u.d.y.q.q1.length u.d.y.c2, .bool u.d.y.q.b2, .slice u.d.y.o3 u.d.y.q.t2.length u.d.y.c3, .slice u.d.y.o4 u.d.y.q.q2.length u.d.y.c4]), (49, .bool true), (50, .bool false), (51, .bool false)] ∧ Mg w w1 (.obj g4 (.cells (u.d.cells u.ts.length).toArray 53) :: .obj g2 (.cells (t.d.cells t.ts.length).toArray 53) :: [])) _ ⟨0, rfl, ⟨Nat.zero_le _, fun j hj => absurd hj (Nat.not_lt_zero _)⟩, A.keep _ (by repeat' constructor), M⟩ ?_)))
       clear M A
       rintro m_ a w22 ⟨i, rfl, hinv24, A, M⟩ K23 hK23
       obtain ⟨hi0, hin8⟩ := hinv24
       refine wsk fun K25 hK25 => wsk fun K26 hK26 => wrl (sdm A λa A↦?_)
       refine sdo (v := .pointer (some ⟨g2, 9, none⟩)) A (qb LiS_fld_53_4 rfl rfl) λa A↦?_
       refine sdo A (qi M LiS_is1_51 rfl 1 rfl rfl) λa A↦?_
       refine sdo A (ze Tryz.underlying51 rfl) λa A↦?_
       rcases tf (decide (((i : Nat) : Int) < ((t.d.rl.length : Nat) : Int))) with hb27 | hb27
       ·
        have hb27' := of_decide_eq_true hb27
        refine sdc A zl hb27 λa A↦?_
        refine qa (hK26 _ _ (wp_cond_true (A.ev rfl) ?_))
        refine wp_skip (hK25 _ _ (wsk fun K28 hK28 => wp_block (wsk fun K29 hK29 => xh (S := fun w1 => Mg w w1 (.obj g4 (.cells (u.d.cells u.ts.length).toArray 53) :: .obj g2 (.cells (t.d.cells t.ts.length).toArray 53) :: [])) (by kernel_rfl) ?_)))
        replace M := M.drew
        refine qm (v := .pointer (some ⟨g2, 9, none⟩)) A 0 rfl rfl rfl rfl hP (M.sub (cc (cc (List.nil_sublist _)))) (fun w1 M => qb LiS_fld_53_4 rfl rfl) λa A↦?_
        refine qm A 1 rfl rfl rfl rfl hP (M.sub (cc (cc (List.nil_sublist _)))) (fun w1 M => qi M LiS_is1_51 rfl 1 rfl rfl) λa A↦?_
        refine qm A 2 rfl rfl rfl rfl hP (M.sub (cc (cc (List.nil_sublist _)))) (fun w1 M => zj rfl) λa A↦?_
        obtain ⟨bt, ot, ht1, ht2, ht3⟩ := rb_open (i := i) (Dt.okT ht).1.raw (by omega)
        refine qm (v := .pointer (some ⟨bt, ot + i, none⟩)) A 3 rfl rfl rfl rfl hP (M.sub (cc (cc (List.nil_sublist _)))) (fun w1 M => jl (k := i) Tryz.underlying51 (by kernel_rfl) rfl rfl rfl ht1 (by omega)) λa A↦?_
        refine qm A 4 rfl rfl rfl rfl hP (M.sub (cc (cc (List.nil_sublist _)))) (fun w1 M => m_loadR M ht2 (ht3 i (by omega)) LiS_is1_5 rfl) λa A↦?_
        refine qm (v := .pointer (some ⟨g4, 9, none⟩)) A 5 rfl rfl rfl rfl hP (M.sub (cc (cc (List.nil_sublist _)))) (fun w1 M => qb LiS_fld_53_4 rfl rfl) λa A↦?_
        refine qm A 6 rfl rfl rfl rfl hP (M.sub (cc (cc (List.nil_sublist _)))) (fun w1 M => qi M LiS_is1_51 rfl 0 rfl rfl) λa A↦?_
        refine qm A 7 rfl rfl rfl rfl hP (M.sub (cc (cc (List.nil_sublist _)))) (fun w1 M => zj rfl) λa A↦?_
        obtain ⟨bu, ou, hu1, hu2, hu3⟩ := rb_open (i := i) (Dt.okT hu).1.raw (by omega)
        refine qm (v := .pointer (some ⟨bu, ou + i, none⟩)) A 8 rfl rfl rfl rfl hP (M.sub (cc (cc (List.nil_sublist _)))) (fun w1 M => jl (k := i) Tryz.underlying51 (by kernel_rfl) rfl rfl rfl hu1 (by omega)) λa A↦?_
        refine qm A 9 rfl rfl rfl rfl hP (M.sub (cc (cc (List.nil_sublist _)))) (fun w1 M => m_loadR M hu2 (hu3 i (by omega)) LiS_is1_5 rfl) λa A↦?_
        rcases tf (((((t.d.rl.getD i 0).toNat : Nat) : Int) != (((u.d.rl.getD i 0).toNat : Nat) : Int))) with hb30 | hb30
        ·
         have hb30' := bne_iff_ne.1 hb30
         refine qm (v := .bool true) A 10 rfl rfl rfl rfl hP (M.sub (cc (cc (List.nil_sublist _)))) (fun w1 M => qg rfl rfl (fun w => (zm w).trans (by rw [hb30]))) λa A↦?_
         refine jo (by kernel_rfl) ?_
         refine hK29 _ _ (wp_cond_true (A.ev rfl) ?_)
         refine wsk fun K31 hK31 => wrl (sda A λa A↦?_)
         refine qa (hK31 _ _ (wp_ret (hret _ _ (en1 A rfl (qe rfl) ?_))))
         exact ⟨by rw [ki (.inr (.inr (.inr (.inl (ne_at hb30')))))], M.bel⟩
        ·
         have hb30' := bne_eq_false_iff_eq.1 hb30
         refine qm (v := .bool false) A 10 rfl rfl rfl rfl hP (M.sub (cc (cc (List.nil_sublist _)))) (fun w1 M => qg rfl rfl (fun w => (zm w).trans (by rw [hb30]))) λa A↦?_
         refine jo (by kernel_rfl) ?_
         refine hK29 _ _ (wp_cond_false (A.ev rfl) ?_)
         refine wp_skip (hK28 _ _ (wrl (sdm A λa A↦?_)))
         refine sdo (v := .int .i64 (((i + 1 : Nat) : Int))) A (qg rfl rfl (fun w => (jk (xj (by omega) (by omega)) w).trans (by rw [show (((i : Nat) : Int) + 1 : Int) = ((i + 1 : Nat) : Int) from by omega]))) λa A↦?_
         refine sda A λa A↦?_
         refine qa ?_
         refine hK23 _ _ _ (by omega) ⟨i + 1, rfl, ⟨by omega, fun j hj => if h9 : j < i then hin8 j h9 else by have h8 : j = i := (by omega); subst h8; exact eq_at hb30'⟩, A.keep _ (by repeat' constructor), M⟩
       ·
        have hb27' := of_decide_eq_false hb27
        refine sdc A zl hb27 λa A↦?_
        refine qa (hK26 _ _ (wp_cond_false (A.ev rfl) ?_))
        refine wp_exit (hK20 _ _ (wsk fun K32 hK32 => wsk fun K33 hK33 => wrl (sda A λa A↦?_)))
        refine qa (hK33 _ _ (wp_block ?_))
        have hrl : t.d.rl = u.d.rl := bytes_ext (by omega) (fun j hj => hin8 j (by omega))
        have hsy := same_yes hb8' hb10' hb12' hrl (by omega) hb17
        refine ja (fun m_ a w1 => ∃ (j : Nat), m_ = 1 + (t.ts.length - j) ∧ (j ≤ t.ts.length ∧ xx (t.ts.map Dt.tr) (u.ts.map Dt.tr) = xx ((t.ts.map Dt.tr).drop j) ((u.ts.map Dt.tr).drop j)) ∧ Sl a 89 [(0, .agg (t.d.cells t.ts.length).toArray), (1, .agg (u.d.cells u.ts.length).toArray), (2, .pointer (some ⟨g2, 0, none⟩)), (3, .pointer (some ⟨g4, 0, none⟩)), (5, .int .i64 (((i : Nat) : Int))), (6, .int .i64 (((j : Nat) : Int))), (7, .pointer (some ⟨g2, 0, none⟩)), (8, .int .i64 t.d.k), (9, .pointer (some ⟨g4, 0, none⟩)), (10, .int .i64 u.d.k), (11, .bool false), (12, .bool false), (13, .pointer (some ⟨g2, 1, none⟩)), (14, .int .i64 t.d.n), (15, .pointer (some ⟨g4, 1, none⟩)), (16, .int .i64 u.d.n), (17, .bool false), (18, .bool false), (19, .bool false), (20, .pointer (some ⟨g2, 8, none⟩)), (21, .string t.d.s), (22, .pointer (some ⟨g4, 8, none⟩)), (23, .string u.d.s), (24, .bool false), (25, .bool false), (26, .bool false), (27, .pointer (some ⟨g2, 9, none⟩)), (28, .slice t.d.ro t.d.rl.length t.d.rc), (29, .int .i64 (((t.d.rl.length : Nat) : Int))), (30, .pointer (some ⟨g4, 9, none⟩)), (31, .slice u.d.ro u.d.rl.length u.d.rc), (32, .int .i64 (((u.d.rl.length : Nat) : Int))), (33, .bool false), (34, .bool false), (35, .bool false), (36, .pointer (some ⟨g2, 10, none⟩)), (37, .slice t.d.lo t.ts.length t.d.lc), (38, .int .i64 (((t.ts.length : Nat) : Int))), (39, .pointer (some ⟨g4, 10, none⟩)), (40, .slice u.d.lo u.ts.length u.d.lc), (41, .int .i64 (((u.ts.length : Nat) : Int))), (42, .bool false), (43, .bool false), (44, .bool false), (45, .pointer (some ⟨g2, 2, none⟩)), (46, .agg #[.bool t.d.y.q.b1, .slice t.d.y.o1 t.d.y.q.t1.length t.d.y.c1, .slice t.d.y.o2 t.d.y.q.q1.length t.d.y.c2, .bool t.d.y.q.b2, .slice t.d.y.o3 t.d.y.q.t2.length t.d.y.c3, .slice t.d.y.o4 t.d.y.q.q2.length t.d.y.c4]), (47, .pointer (some ⟨g4, 2, none⟩)), (48, .agg #[.bool u.d.y.q.b1, .slice u.d.y.o1 u.d.y.q.t1.length u.d.y.c1, .slice u.d.y.o2 u.d.y.q.q1.length u.d.y.c2, .bool u.d.y.q.b2, .slice u.d.y.o3 u.d.y.q.t2.length u.d.y.c3, .slice u.d.y.o4 u.d.y.q.q2.length u.d.y.c4]), (49, .bool true), (50, .bool false), (51, .bool false), (52, .int .i64 (((i : Nat) : Int))), (53, .pointer (some ⟨g2, 9, none⟩)), (54, .slice t.d.ro t.d.rl.length t.d.rc), (55, .int .i64 (((t.d.rl.length : Nat) : Int))), (56, .bool false)] ∧ Mg w w1 (.obj g4 (.cells (u.d.cells u.ts.length).toArray 53) :: .obj g2 (.cells (t.d.cells t.ts.length).toArray 53) :: [])) _ ⟨0, rfl, ⟨Nat.zero_le _, rfl⟩, A.keep _ (by repeat' constructor), M⟩ ?_
        clear M A
        rintro m_ a w34 ⟨j, rfl, hinv36, A, M⟩ K35 hK35
        obtain ⟨hi1, hin9⟩ := hinv36
        refine wsk fun K37 hK37 => wsk fun K38 hK38 => wrl (sdm A λa A↦?_)
        refine sdo (v := .pointer (some ⟨g2, 10, none⟩)) A (qb LiS_fld_53_5 rfl rfl) λa A↦?_
        refine sdo A (qi M LiS_is1_39 rfl 1 rfl rfl) λa A↦?_
        refine sdo A (ze Tryz.underlying39 rfl) λa A↦?_
        rcases tf (decide (((j : Nat) : Int) < ((t.ts.length : Nat) : Int))) with hb39 | hb39
        ·
         have hb39' := of_decide_eq_true hb39
         refine sdc A zl hb39 λa A↦?_
         refine qa (hK38 _ _ (wp_cond_true (A.ev rfl) ?_))
         refine wp_skip (hK37 _ _ (wsk fun K40 hK40 => wp_block (wsk fun K41 hK41 => ?_)))
         obtain ⟨t1, bt1, ot1, it1, mt1, rt1_, lt1, Ht1⟩ := kidT ht (i := j) (by omega)
         obtain ⟨u1, bu1, ou1, iu1, mu1, ru1_, lu1, Hu1⟩ := kidT hu (i := j) (by omega)
         refine xh (S := fun w1 => Mg w w1 (.obj g4 (.cells (u.d.cells u.ts.length).toArray 53) :: .obj g2 (.cells (t.d.cells t.ts.length).toArray 53) :: [])) (by kernel_rfl) ?_
         replace M := M.drew
         refine qm (v := .pointer (some ⟨g2, 10, none⟩)) A 0 rfl rfl rfl rfl hP (M.sub (cc (cc (List.nil_sublist _)))) (fun w1 M => qb LiS_fld_53_5 rfl rfl) λa A↦?_
         refine qm A 1 rfl rfl rfl rfl hP (M.sub (cc (cc (List.nil_sublist _)))) (fun w1 M => qi M LiS_is1_39 rfl 1 rfl rfl) λa A↦?_
         refine qm A 2 rfl rfl rfl rfl hP (M.sub (cc (cc (List.nil_sublist _)))) (fun w1 M => zj rfl) λa A↦?_
         refine qm (v := .pointer (some ⟨bt1, ot1 + j * 11, none⟩)) A 3 rfl rfl rfl rfl hP (M.sub (cc (cc (List.nil_sublist _)))) (fun w1 M => zp (k := j) Tryz.underlying39 (by kernel_rfl) rfl rfl rfl lt1 (by omega)) λa A↦?_
         refine qm A 4 rfl rfl rfl rfl hP (M.sub (cc (cc (List.nil_sublist _)))) (fun w1 M => jp M Ht1 LiS_isS_53 rfl rfl) λa A↦?_
         refine qm (v := .pointer (some ⟨g4, 10, none⟩)) A 5 rfl rfl rfl rfl hP (M.sub (cc (cc (List.nil_sublist _)))) (fun w1 M => qb LiS_fld_53_5 rfl rfl) λa A↦?_
         refine qm A 6 rfl rfl rfl rfl hP (M.sub (cc (cc (List.nil_sublist _)))) (fun w1 M => qi M LiS_is1_39 rfl 0 rfl rfl) λa A↦?_
         refine qm A 7 rfl rfl rfl rfl hP (M.sub (cc (cc (List.nil_sublist _)))) (fun w1 M => zj rfl) λa A↦?_
         refine qm (v := .pointer (some ⟨bu1, ou1 + j * 11, none⟩)) A 8 rfl rfl rfl rfl hP (M.sub (cc (cc (List.nil_sublist _)))) (fun w1 M => zp (k := j) Tryz.underlying39 (by kernel_rfl) rfl rfl rfl lu1 (by omega)) λa A↦?_
         refine qm A 9 rfl rfl rfl rfl hP (M.sub (cc (cc (List.nil_sublist _)))) (fun w1 M => jp M Hu1 LiS_isS_53 rfl rfl) λa A↦?_
         rcases tf (kk t1.tr u1.tr) with hb42 | hb42
         ·
          refine zy (by kernel_rfl) (jj A 10 rfl rfl rfl rfl (zf rfl rfl (fun w => by kernel_rfl)) ((hb42 ▸ ih (by have := bulkT mt1; omega) (Dt.keep M.bel _ rt1_) (Dt.keep M.bel _ ru1_))) ?_)
          rintro _ w44 ⟨rfl, hb43⟩
          replace M := M.call hb43
          refine ⟨_, rfl, (M.sub (cc (cc (List.nil_sublist _)))), ?_⟩
          intro a A
          refine qm (v := .bool false) A 11 rfl rfl rfl rfl hP (M.sub (cc (cc (List.nil_sublist _)))) (fun w1 M => zb rfl zn) λa A↦?_
          refine jo (by kernel_rfl) ?_
          refine hK41 _ _ (wp_cond_false (A.ev rfl) ?_)
          refine wp_skip (hK40 _ _ (wrl (sdm A λa A↦?_)))
          refine sdo (v := .int .i64 (((j + 1 : Nat) : Int))) A (qg rfl rfl (fun w => (jk (xj (by omega) (by omega)) w).trans (by rw [show (((j : Nat) : Int) + 1 : Int) = ((j + 1 : Nat) : Int) from by omega]))) λa A↦?_
          refine sda A λa A↦?_
          refine qa ?_
          refine hK35 _ _ _ (by omega) ⟨j + 1, rfl, ⟨by omega, by rw [hin9, sameL_go it1 iu1, hb42, Bool.true_and]⟩, A.keep _ (by repeat' constructor), M⟩
         ·
          refine zy (by kernel_rfl) (jj A 10 rfl rfl rfl rfl (zf rfl rfl (fun w => by kernel_rfl)) ((hb42 ▸ ih (by have := bulkT mt1; omega) (Dt.keep M.bel _ rt1_) (Dt.keep M.bel _ ru1_))) ?_)
          rintro _ w46 ⟨rfl, hb45⟩
          replace M := M.call hb45
          refine ⟨_, rfl, (M.sub (cc (cc (List.nil_sublist _)))), ?_⟩
          intro a A
          refine qm (v := .bool true) A 11 rfl rfl rfl rfl hP (M.sub (cc (cc (List.nil_sublist _)))) (fun w1 M => zb rfl zn) λa A↦?_
          refine jo (by kernel_rfl) ?_
          refine hK41 _ _ (wp_cond_true (A.ev rfl) ?_)
          refine wsk fun K47 hK47 => wrl (sda A λa A↦?_)
          refine qa (hK47 _ _ (wp_ret (hret _ _ (en1 A rfl (qe rfl) ?_))))
          exact ⟨by rw [hsy, hin9, sameL_go it1 iu1, hb42]; rfl, M.bel⟩
        ·
         have hb39' := of_decide_eq_false hb39
         refine sdc A zl hb39 λa A↦?_
         refine qa (hK38 _ _ (wp_cond_false (A.ev rfl) ?_))
         refine wp_exit (hK32 _ _ (wsk fun K48 hK48 => wrl (sda A λa A↦?_)))
         refine qa (hK48 _ _ (wp_ret (hret _ _ (en1 A rfl (qe rfl) ?_))))
         exact ⟨by rw [hsy, hin9, sameL_end (by omega)], M.bel⟩
      ·
       refine gcl A M (ef rfl rfl) (qfd (Dt.keep M.bel _ ht) (Dt.keep M.bel _ hu) hb17) fun w50 hb49 M a A => ?_
       refine sdo (v := .bool true) A (zb rfl zn) λa A↦?_
       refine sdk (v := .bool true) A λa A↦?_
       refine qa (hK7 _ _ (wp_cond_true (A.ev rfl) ?_))
       refine wsk fun K51 hK51 => wrl (sda A λa A↦?_)
       refine qa (hK51 _ _ (wp_ret (hret _ _ (en1 A rfl (qe rfl) ?_))))
       exact ⟨by rw [ki (.inr (.inr (.inr (.inr (.inr hb17)))))], M.bel⟩
   ·
    have hb12' := of_decide_eq_false hb12
    refine sdo (v := .bool true) A (qg rfl rfl (fun w => (qld Tryz.underlying9 w).trans (by rw [hb12] <;> rfl))) λa A↦?_
    refine sdk (v := .bool true) A λa A↦?_
    refine sdm A λa A↦?_
    iterate 7 refine qt A rfl rfl rfl λa A↦?_
    refine sdk (v := .bool true) A λa A↦?_
    refine sdm A λa A↦?_
    iterate 7 refine qt A rfl rfl rfl λa A↦?_
    refine sdk (v := .bool true) A λa A↦?_
    refine sdm A λa A↦?_
    iterate 6 refine qt A rfl rfl rfl λa A↦?_
    refine sdk (v := .bool true) A λa A↦?_
    refine qa (hK7 _ _ (wp_cond_true (A.ev rfl) ?_))
    refine wsk fun K52 hK52 => wrl (sda A λa A↦?_)
    refine qa (hK52 _ _ (wp_ret (hret _ _ (en1 A rfl (qe rfl) ?_))))
    exact ⟨by rw [ki (.inr (.inr (.inl hb12')))], M.bel⟩
theorem qfe : ∀ n, RSames n
 | 0 => fun h => absurd h (Nat.not_lt_zero _)
 | n + 1 => rsames_step (qfe n)
end Go.Proofs.YtdpakekdbkpdfaaGreatDoor.G
