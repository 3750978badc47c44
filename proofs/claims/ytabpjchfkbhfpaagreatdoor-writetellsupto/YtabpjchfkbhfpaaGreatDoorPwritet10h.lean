/- Walks of characters that are written. Walks of strings, symbols and bytes that are written. What a bound on the bulk of what is read gives. Transcoders that come in as arguments. Rows of bytes that come in as arguments; the first part of a row, and of a text. Data that come in as arguments. Walks of a quotation, of vectors, lists and data that are written. Walks of lists and data that are written. Walks of the size of data. Walks of what makes a node sound. -/
import Derived.Test.YtabpjchfkbhfpaaGreatDoorPwritet10g
import Derived.Test.YtabpjchfkbhfpaaGreatDoorRows
import Derived.Test.YtabpjchfkbhfpaaGreatDoorPwritet10e
import Derived.Test.YtabpjchfkbhfpaaGreatDoorProg
import Derived.WalkKit
import Derived.ProofKit
import Derived.OpenShut
import Derived.ChangeOld
import Derived.Lib.SmallJoins
import Derived.Deep.Strs
import Derived.Test.YtabpjchfkbhfpaaGreatDoorPwritet10d
import Derived.Deep.Slices
namespace Go.Proofs.YtabpjchfkbhfpaaGreatDoor.G
open Go.RowKit
set_option linter.unusedVariables false
set_option linter.unusedSimpArgs false
set_option maxRecDepth 100000
theorem TwG_is1_4 : Is1 Tryz.prog 4 := ⟨⟨_, Tryz.underlying4, rfl⟩, by kernel_rfl⟩
theorem TwG_fld_42_0 : FieldAt Tryz.prog 42 0 0 := ⟨_, _, Tryz.underlying42, rfl, rfl, by kernel_rfl⟩
theorem TwG_fld_42_1 : FieldAt Tryz.prog 42 1 2 := ⟨_, _, Tryz.underlying42, rfl, rfl, by kernel_rfl⟩
theorem qch {w0 w : World} {gw : Nat} {p v : Value} {pl : Bool} {bs : List UInt8} {T : List Ck} (hp : p = .pointer none ∨ p = .pointer (some ⟨gw, 0, none⟩)) (hM0 : Mg w0 w (.obj gw (.cells #[p, v, .bool pl] 42) :: .row BY 1 v bs.length (Lib.byteCells bs) :: T)) (hT : QT T) {n : Nat} (hn : n ≤ 1114111) (hz : C.Tz16 w0) (hroom : bs.length + 16 ≤ 1000000000) : Calls Tryz.prog 56 #[.pointer (some ⟨gw, 0, none⟩), .int .i32 ((n : Nat) : Int)] w fun e w' => e = .returned (.tuple #[]) ∧ ∃ v', Mg w0 w' (.obj gw (.cells #[.pointer (some ⟨gw, 0, none⟩), v', .bool pl] 42) :: .row BY 1 v' (bs ++ (jk ((n : Nat) : Int))).length (Lib.byteCells (bs ++ (jk ((n : Nat) : Int)))) :: T) := by
 have hx6 := C.hexD_len n hn
 have M : Mg w0 w (.obj gw (.cells #[p, v, .bool pl] 42) :: .row BY 1 (v) bs.length ((Lib.byteCells bs)) :: T) := hM0
 refine qm (l := [(0, .pointer (some ⟨gw, 0, none⟩)), (1, .int .i32 (((n : Nat) : Int)))]) Tryz.func56 rfl Tryz.ntmps56 rfl rfl ?_
 intro Q hret hnorm hP a A
 refine wsk fun K1 hK1 => wrl (sdm A λa A↦?_)
 refine sdo A (qi rfl) λa A↦?_
 refine sdo (v := .pointer (some ⟨gw, 0, none⟩)) A (qb TwG_fld_42_0 rfl rfl) λa A↦?_
 refine sct A (ef rfl rfl) (ja hp (toW (X := []) M) (s := ⟨#[92, 120]⟩) (by first | omega | (simp only [List.length_append, List.length_cons, List.length_nil]; omega) | (simp only [List.length_append, List.length_cons, List.length_nil, ByteArray.size, List.size_toArray, Array.size]; omega))) ?_
 rintro _ w5 ⟨rfl, v2, hM3⟩
 replace M : Mg w0 w5 (.obj gw (.cells #[.pointer (some ⟨gw, 0, none⟩), v2, .bool pl] 42) :: .row BY 1 (v2) (((bs ++ ([92, 120]))).length) ((Lib.byteCells ((bs ++ ([92, 120]))))) :: T) := (qs (X := []) hM3)
 refine ⟨_, rfl, ?_⟩
 intro a A
 refine qa (hK1 _ _ (kq (S := fun w1 => Mg w0 w1 ([])) (by kernel_rfl) ?_))
 replace M := M.drew
 refine za A 0 rfl rfl rfl rfl hP (M.sub (.cons _ (.cons _ (List.nil_sublist _)))) (fun w1 M => jl rfl) λa A↦?_
 refine za A 1 rfl rfl rfl rfl hP (M.sub (.cons _ (.cons _ (List.nil_sublist _)))) (fun w1 M => qi rfl) λa A↦?_
 refine za (v := .pointer (some ⟨gw, 0, none⟩)) A 2 rfl rfl rfl rfl hP (M.sub (.cons _ (.cons _ (List.nil_sublist _)))) (fun w1 M => qb TwG_fld_42_0 rfl rfl) λa A↦?_
 refine za A 3 rfl rfl rfl rfl hP (M.sub (.cons _ (.cons _ (List.nil_sublist _)))) (fun w1 M => jl rfl) λa A↦?_
 refine za (v := .int .i64 (((n : Nat) : Int))) A 4 rfl rfl rfl rfl hP (M.sub (.cons _ (.cons _ (List.nil_sublist _)))) (fun w1 M => qt rfl (ar_conv Tryz.underlying21 Tryz.underlying2 (in_i64 (by omega) (by omega)))) λa A↦?_
 refine jp (by kernel_rfl) (xf A 5 rfl rfl rfl rfl (zp rfl rfl (fun w => by kernel_rfl)) (zpf (vm hz M.bel) hn) ?_)
 rintro _ w7 ⟨rfl, hb6⟩
 replace M := M.call hb6
 refine ⟨_, rfl, (M.sub (.cons _ (.cons _ (List.nil_sublist _)))), ?_⟩
 intro a A
 refine jp (by kernel_rfl) (xf A 6 rfl rfl rfl rfl (zp rfl rfl (fun w => by kernel_rfl)) (ja (.inr rfl) (toW (X := []) M) (s := ⟨(C.hexD n).toArray⟩) (by first | omega | (simp only [List.length_append, List.length_cons, List.length_nil]; omega) | (simp only [List.length_append, List.length_cons, List.length_nil, ByteArray.size, List.size_toArray, Array.size]; omega))) ?_)
 rintro _ w11 ⟨rfl, v8, hM9⟩
 replace M : Mg w0 w11 (.obj gw (.cells #[.pointer (some ⟨gw, 0, none⟩), v8, .bool pl] 42) :: .row BY 1 (v8) ((((bs ++ ([92, 120])) ++ (C.hexD n))).length) ((Lib.byteCells (((bs ++ ([92, 120])) ++ (C.hexD n))))) :: T) := (qs (X := []) hM9)
 refine ⟨_, rfl, (M.sub (.cons _ (.cons _ (List.nil_sublist _)))), ?_⟩
 intro a A
 refine xw (by kernel_rfl) ?_
 refine hnorm _ _ (ji (v := .tuple #[]) A rfl .nil rfl ?_)
 refine ⟨rfl, v8, ?_⟩
 have hM8 := M.sub (L' := _ :: _ :: T) (.cons_cons _ (.cons_cons _ (.refl _)))
 rw [show jk ((n : Nat) : Int) = ([92, 120]) ++ (C.hexD n) from ke n]
 simpa only [List.append_assoc, List.append_nil, List.cons_append, List.nil_append] using hM8
theorem zra {w0 w : World} {gw : Nat} {p v : Value} {pl : Bool} {bs : List UInt8} {T : List Ck} (hp : p = .pointer none ∨ p = .pointer (some ⟨gw, 0, none⟩)) (hM0 : Mg w0 w (.obj gw (.cells #[p, v, .bool pl] 42) :: .row BY 1 v bs.length (Lib.byteCells bs) :: T)) (hT : QT T) {n : Nat} (ho : C.OkR ((n : Nat) : Int)) (hz : C.Tz16 w0) (hroom : bs.length + 64 ≤ 1000000000) : Calls Tryz.prog 26 #[.pointer (some ⟨gw, 0, none⟩), .int .i32 ((n : Nat) : Int)] w fun e w' => e = .returned (.tuple #[]) ∧ ∃ v', Mg w0 w' (.obj gw (.cells #[.pointer (some ⟨gw, 0, none⟩), v', .bool pl] 42) :: .row BY 1 v' (bs ++ (kv pl ((n : Nat) : Int))).length (Lib.byteCells (bs ++ (kv pl ((n : Nat) : Int)))) :: T) := by
 have hn := vd ho
 have hx8 := ui hn
 have hl9 := uj ((n : Nat) : Int)
 have hl8 := qdh ((n : Nat) : Int)
 have M : Mg w0 w (.obj gw (.cells #[p, v, .bool pl] 42) :: .row BY 1 (v) bs.length ((Lib.byteCells bs)) :: T) := hM0
 refine qm (l := [(0, .pointer (some ⟨gw, 0, none⟩)), (1, .int .i32 (((n : Nat) : Int)))]) Tryz.func26 rfl Tryz.ntmps26 rfl rfl ?_
 intro Q hret hnorm hP a A
 refine wsk fun K1 hK1 => wsk fun K2 hK2 => wrl (sdm A λa A↦?_)
 refine sdo A (qi rfl) λa A↦?_
 refine sdo (v := .pointer (some ⟨gw, 2, none⟩)) A (qb TwG_fld_42_1 rfl rfl) λa A↦?_
 refine sdo A (qk M TwG_is1_4 rfl 0 rfl rfl) λa A↦?_
 refine qa (hK2 _ _ ?_)
 refine wp_cond_split (t := pl) (A.ev rfl) (fun hc3 => ?_) (fun hc3 => ?_)
 ·
  refine wsk fun K4 hK4 => wrl (sdm A λa A↦?_)
  refine sdo A (qi rfl) λa A↦?_
  refine sdo (v := .pointer (some ⟨gw, 0, none⟩)) A (qb TwG_fld_42_0 rfl rfl) λa A↦?_
  refine sdm A λa A↦?_
  refine sct A (ef rfl rfl) (xu hp (toW (X := []) M) hT (r := ((n : Nat) : Int)) (by omega) (by omega) (by first | omega | (simp only [List.length_append, List.length_cons, List.length_nil]; omega) | (simp only [List.length_append, List.length_cons, List.length_nil, ByteArray.size, List.size_toArray, Array.size]; omega))) ?_
  rintro _ w8 ⟨z7, rfl, v5, hM6⟩
  replace M : Mg w0 w8 (.obj gw (.cells #[.pointer (some ⟨gw, 0, none⟩), v5, .bool pl] 42) :: .row BY 1 (v5) (((bs ++ (Lib.encodeRune (((n : Nat) : Int))))).length) ((Lib.byteCells ((bs ++ (Lib.encodeRune (((n : Nat) : Int))))))) :: T) := (qs (X := []) hM6)
  refine ⟨_, rfl, ?_⟩
  intro a A
  refine qa (hK4 _ _ (wp_ret (hret _ _ (ji (v := .tuple #[]) A rfl .nil rfl ?_))))
  refine ⟨rfl, v5, ?_⟩
  have hM8 := M.sub (L' := _ :: _ :: T) (.cons_cons _ (.cons_cons _ (.refl _)))
  rw [show kv pl ((n : Nat) : Int) = (Lib.encodeRune (((n : Nat) : Int))) from zoi hc3]
  simpa only [List.append_assoc, List.append_nil, List.cons_append, List.nil_append] using hM8
 ·
  refine wp_skip (hK1 _ _ (wsk fun K9 hK9 => wrl (sdm A λa A↦?_)))
  refine sdo A (qi rfl) λa A↦?_
  refine sdo (v := .pointer (some ⟨gw, 0, none⟩)) A (qb TwG_fld_42_0 rfl rfl) λa A↦?_
  refine sct A (ef rfl rfl) (zi hp (toW (X := []) M) hT (b := 35) (by first | omega | (simp only [List.length_append, List.length_cons, List.length_nil]; omega) | (simp only [List.length_append, List.length_cons, List.length_nil, ByteArray.size, List.size_toArray, Array.size]; omega))) ?_
  rintro _ w13 ⟨rfl, v10, hM11⟩
  replace M : Mg w0 w13 (.obj gw (.cells #[.pointer (some ⟨gw, 0, none⟩), v10, .bool pl] 42) :: .row BY 1 (v10) (((bs ++ ([35]))).length) ((Lib.byteCells ((bs ++ ([35]))))) :: T) := (qs (X := []) hM11)
  refine ⟨_, rfl, ?_⟩
  intro a A
  refine qa (hK9 _ _ (wsk fun K14 hK14 => wrl (sdm A λa A↦?_)))
  refine sct A (ef rfl rfl) (C.nameOf_any ((n : Nat) : Int) _) ?_
  rintro _ w16 ⟨rfl, hw15⟩
  subst hw15
  refine ⟨_, rfl, ?_⟩
  intro a A
  refine sda A λa A↦?_
  refine qa (hK14 _ _ (wp_block (wsk fun K17 hK17 => wrl (sdm A λa A↦?_))))
  rcases tf (decide (C.nameL ((n : Nat) : Int) = ⟨#[]⟩)) with hb18 | hb18
  ·
   have hb18' := of_decide_eq_true hb18
   refine sdo (v := .bool false) A (qe rfl rfl (fun w => (ku Tryz.underlying9 w).trans (by rw [hb18] <;> rfl))) λa A↦?_
   refine sda A λa A↦?_
   refine qa (hK17 _ _ (wp_cond_false (A.ev rfl) ?_))
   refine wsk fun K19 hK19 => wrl (sdm A λa A↦?_)
   rcases tf (C.blankB ((n : Nat) : Int)) with hb20 | hb20
   ·
    refine sct A (ef rfl rfl) ((hb20 ▸ C.blank_any ((n : Nat) : Int) _)) ?_
    rintro _ w22 ⟨rfl, hw21⟩
    subst hw21
    refine ⟨_, rfl, ?_⟩
    intro a A
    refine sdm A λa A↦?_
    iterate 2 refine qh A rfl rfl rfl λa A↦?_
    refine sdk (v := .bool true) A λa A↦?_
    refine sda A λa A↦?_
    refine qa (hK19 _ _ (wp_cond_true (A.ev rfl) ?_))
    refine wrl ?_
    iterate 2 refine sdm A λa A↦?_
    refine sct A (ef rfl rfl) (qch (.inr rfl) (toW (X := []) M) hT (n := n) (by omega) hz (by first | omega | (simp only [List.length_append, List.length_cons, List.length_nil]; omega) | (simp only [List.length_append, List.length_cons, List.length_nil, ByteArray.size, List.size_toArray, Array.size]; omega))) ?_
    rintro _ w26 ⟨rfl, v23, hM24⟩
    replace M : Mg w0 w26 (.obj gw (.cells #[.pointer (some ⟨gw, 0, none⟩), v23, .bool pl] 42) :: .row BY 1 (v23) ((((bs ++ ([35])) ++ (jk (((n : Nat) : Int))))).length) ((Lib.byteCells (((bs ++ ([35])) ++ (jk (((n : Nat) : Int))))))) :: T) := (qs (X := []) hM24)
    refine ⟨_, rfl, ?_⟩
    intro a A
    refine qa (hnorm _ _ (ji (v := .tuple #[]) A rfl .nil rfl ?_))
    refine ⟨rfl, v23, ?_⟩
    have hM8 := M.sub (L' := _ :: _ :: T) (.cons_cons _ (.cons_cons _ (.refl _)))
    rw [show kv pl ((n : Nat) : Int) = ([35]) ++ (jk (((n : Nat) : Int))) from qrc hc3 hb18' (by rw [hb20]; rfl)]
    simpa only [List.append_assoc, List.append_nil, List.cons_append, List.nil_append] using hM8
   ·
    refine sct A (ef rfl rfl) ((hb20 ▸ C.blank_any ((n : Nat) : Int) _)) ?_
    rintro _ w28 ⟨rfl, hw27⟩
    subst hw27
    refine ⟨_, rfl, ?_⟩
    intro a A
    iterate 2 refine sdm A λa A↦?_
    rcases tf (C.ctlB ((n : Nat) : Int)) with hb29 | hb29
    ·
     refine sct A (ef rfl rfl) ((hb29 ▸ C.ctl_any ((n : Nat) : Int) _)) ?_
     rintro _ w31 ⟨rfl, hw30⟩
     subst hw30
     refine ⟨_, rfl, ?_⟩
     intro a A
     refine sdk (v := .bool true) A λa A↦?_
     refine sda A λa A↦?_
     refine qa (hK19 _ _ (wp_cond_true (A.ev rfl) ?_))
     refine wrl ?_
     iterate 2 refine sdm A λa A↦?_
     refine sct A (ef rfl rfl) (qch (.inr rfl) (toW (X := []) M) hT (n := n) (by omega) hz (by first | omega | (simp only [List.length_append, List.length_cons, List.length_nil]; omega) | (simp only [List.length_append, List.length_cons, List.length_nil, ByteArray.size, List.size_toArray, Array.size]; omega))) ?_
     rintro _ w35 ⟨rfl, v32, hM33⟩
     replace M : Mg w0 w35 (.obj gw (.cells #[.pointer (some ⟨gw, 0, none⟩), v32, .bool pl] 42) :: .row BY 1 (v32) ((((bs ++ ([35])) ++ (jk (((n : Nat) : Int))))).length) ((Lib.byteCells (((bs ++ ([35])) ++ (jk (((n : Nat) : Int))))))) :: T) := (qs (X := []) hM33)
     refine ⟨_, rfl, ?_⟩
     intro a A
     refine qa (hnorm _ _ (ji (v := .tuple #[]) A rfl .nil rfl ?_))
     refine ⟨rfl, v32, ?_⟩
     have hM8 := M.sub (L' := _ :: _ :: T) (.cons_cons _ (.cons_cons _ (.refl _)))
     rw [show kv pl ((n : Nat) : Int) = ([35]) ++ (jk (((n : Nat) : Int))) from qrc hc3 hb18' (by rw [hb20, hb29]; rfl)]
     simpa only [List.append_assoc, List.append_nil, List.cons_append, List.nil_append] using hM8
    ·
     refine sct A (ef rfl rfl) ((hb29 ▸ C.ctl_any ((n : Nat) : Int) _)) ?_
     rintro _ w37 ⟨rfl, hw36⟩
     subst hw36
     refine ⟨_, rfl, ?_⟩
     intro a A
     refine sdk (v := .bool false) A λa A↦?_
     refine sda A λa A↦?_
     refine qa (hK19 _ _ (wp_cond_false (A.ev rfl) ?_))
     refine wsk fun K38 hK38 => wrl (sdm A λa A↦?_)
     refine sdo A (qi rfl) λa A↦?_
     refine sdo (v := .pointer (some ⟨gw, 0, none⟩)) A (qb TwG_fld_42_0 rfl rfl) λa A↦?_
     refine sct A (ef rfl rfl) (zi (.inr rfl) (toW (X := []) M) hT (b := 92) (by first | omega | (simp only [List.length_append, List.length_cons, List.length_nil]; omega) | (simp only [List.length_append, List.length_cons, List.length_nil, ByteArray.size, List.size_toArray, Array.size]; omega))) ?_
     rintro _ w42 ⟨rfl, v39, hM40⟩
     replace M : Mg w0 w42 (.obj gw (.cells #[.pointer (some ⟨gw, 0, none⟩), v39, .bool pl] 42) :: .row BY 1 (v39) ((((bs ++ ([35])) ++ ([92]))).length) ((Lib.byteCells (((bs ++ ([35])) ++ ([92]))))) :: T) := (qs (X := []) hM40)
     refine ⟨_, rfl, ?_⟩
     intro a A
     refine qa (hK38 _ _ (wrl (sdm A λa A↦?_)))
     refine sdo A (qi rfl) λa A↦?_
     refine sdo (v := .pointer (some ⟨gw, 0, none⟩)) A (qb TwG_fld_42_0 rfl rfl) λa A↦?_
     refine sdm A λa A↦?_
     refine sct A (ef rfl rfl) (xu (.inr rfl) (toW (X := []) M) hT (r := ((n : Nat) : Int)) (by omega) (by omega) (by first | omega | (simp only [List.length_append, List.length_cons, List.length_nil]; omega) | (simp only [List.length_append, List.length_cons, List.length_nil, ByteArray.size, List.size_toArray, Array.size]; omega))) ?_
     rintro _ w46 ⟨z45, rfl, v43, hM44⟩
     replace M : Mg w0 w46 (.obj gw (.cells #[.pointer (some ⟨gw, 0, none⟩), v43, .bool pl] 42) :: .row BY 1 (v43) (((((bs ++ ([35])) ++ ([92])) ++ (Lib.encodeRune (((n : Nat) : Int))))).length) ((Lib.byteCells ((((bs ++ ([35])) ++ ([92])) ++ (Lib.encodeRune (((n : Nat) : Int))))))) :: T) := (qs (X := []) hM44)
     refine ⟨_, rfl, ?_⟩
     intro a A
     refine qa (hnorm _ _ (ji (v := .tuple #[]) A rfl .nil rfl ?_))
     refine ⟨rfl, v43, ?_⟩
     have hM8 := M.sub (L' := _ :: _ :: T) (.cons_cons _ (.cons_cons _ (.refl _)))
     rw [show kv pl ((n : Nat) : Int) = ([35]) ++ (([92]) ++ (Lib.encodeRune (((n : Nat) : Int)))) from zgf hc3 hb18' (by rw [hb20, hb29]; rfl)]
     simpa only [List.append_assoc, List.append_nil, List.cons_append, List.nil_append] using hM8
  ·
   have hb18' := of_decide_eq_false hb18
   refine sdo (v := .bool true) A (qe rfl rfl (fun w => (ku Tryz.underlying9 w).trans (by rw [hb18] <;> rfl))) λa A↦?_
   refine sda A λa A↦?_
   refine qa (hK17 _ _ (wp_cond_true (A.ev rfl) ?_))
   refine wsk fun K47 hK47 => wrl (sdm A λa A↦?_)
   refine sdo A (qi rfl) λa A↦?_
   refine sdo (v := .pointer (some ⟨gw, 0, none⟩)) A (qb TwG_fld_42_0 rfl rfl) λa A↦?_
   refine sct A (ef rfl rfl) (zi (.inr rfl) (toW (X := []) M) hT (b := 92) (by first | omega | (simp only [List.length_append, List.length_cons, List.length_nil]; omega) | (simp only [List.length_append, List.length_cons, List.length_nil, ByteArray.size, List.size_toArray, Array.size]; omega))) ?_
   rintro _ w51 ⟨rfl, v48, hM49⟩
   replace M : Mg w0 w51 (.obj gw (.cells #[.pointer (some ⟨gw, 0, none⟩), v48, .bool pl] 42) :: .row BY 1 (v48) ((((bs ++ ([35])) ++ ([92]))).length) ((Lib.byteCells (((bs ++ ([35])) ++ ([92]))))) :: T) := (qs (X := []) hM49)
   refine ⟨_, rfl, ?_⟩
   intro a A
   refine qa (hK47 _ _ (wrl (sdm A λa A↦?_)))
   refine sdo A (qi rfl) λa A↦?_
   refine sdo (v := .pointer (some ⟨gw, 0, none⟩)) A (qb TwG_fld_42_0 rfl rfl) λa A↦?_
   refine sdm A λa A↦?_
   refine sct A (ef rfl rfl) (ja (.inr rfl) (toW (X := []) M) (s := C.nameL ((n : Nat) : Int)) (by first | omega | (simp only [List.length_append, List.length_cons, List.length_nil]; omega) | (simp only [List.length_append, List.length_cons, List.length_nil, ByteArray.size, List.size_toArray, Array.size]; omega))) ?_
   rintro _ w55 ⟨rfl, v52, hM53⟩
   replace M : Mg w0 w55 (.obj gw (.cells #[.pointer (some ⟨gw, 0, none⟩), v52, .bool pl] 42) :: .row BY 1 (v52) (((((bs ++ ([35])) ++ ([92])) ++ ((C.nameL ((n : Nat) : Int)).data.toList))).length) ((Lib.byteCells ((((bs ++ ([35])) ++ ([92])) ++ ((C.nameL ((n : Nat) : Int)).data.toList))))) :: T) := (qs (X := []) hM53)
   refine ⟨_, rfl, ?_⟩
   intro a A
   refine qa (hnorm _ _ (ji (v := .tuple #[]) A rfl .nil rfl ?_))
   refine ⟨rfl, v52, ?_⟩
   have hM8 := M.sub (L' := _ :: _ :: T) (.cons_cons _ (.cons_cons _ (.refl _)))
   rw [show kv pl ((n : Nat) : Int) = ([35]) ++ (([92]) ++ ((C.nameL ((n : Nat) : Int)).data.toList)) from zge hc3 hb18']
   simpa only [List.append_assoc, List.append_nil, List.cons_append, List.nil_append] using hM8
theorem zph {w0 w : World} {gw : Nat} {p v : Value} {pl : Bool} {bs : List UInt8} {T : List Ck} (hp : p = .pointer none ∨ p = .pointer (some ⟨gw, 0, none⟩)) (hM0 : Mg w0 w (.obj gw (.cells #[p, v, .bool pl] 42) :: .row BY 1 v bs.length (Lib.byteCells bs) :: T)) (hT : QT T) {n : Nat} (ho : C.OkR ((n : Nat) : Int)) (hz : C.Tz16 w0) (hroom : bs.length + 64 ≤ 1000000000) : Calls Tryz.prog 57 #[.pointer (some ⟨gw, 0, none⟩), .int .i32 ((n : Nat) : Int)] w fun e w' => e = .returned (.tuple #[]) ∧ ∃ v', Mg w0 w' (.obj gw (.cells #[.pointer (some ⟨gw, 0, none⟩), v', .bool pl] 42) :: .row BY 1 v' (bs ++ (C.strC ((n : Nat) : Int))).length (Lib.byteCells (bs ++ (C.strC ((n : Nat) : Int)))) :: T) := by
 have hn := vd ho
 have hx8 := ui hn
 have hl9 := uj ((n : Nat) : Int)
 have hl8 := qdh ((n : Nat) : Int)
 have M : Mg w0 w (.obj gw (.cells #[p, v, .bool pl] 42) :: .row BY 1 (v) bs.length ((Lib.byteCells bs)) :: T) := hM0
 refine qm (l := [(0, .pointer (some ⟨gw, 0, none⟩)), (1, .int .i32 (((n : Nat) : Int)))]) Tryz.func57 rfl Tryz.ntmps57 rfl rfl ?_
 intro Q hret hnorm hP a A
 refine wp_block (wsk fun K1 hK1 => wrl (sdm A λa A↦?_))
 rcases tf (decide (7 ≤ ((n : Nat) : Int))) with hb2 | hb2
 ·
  have hb2' := of_decide_eq_true hb2
  refine sdc A jh hb2 λa A↦?_
  iterate 2 refine sdm A λa A↦?_
  rcases tf (decide (((n : Nat) : Int) ≤ 13)) with hb3 | hb3
  ·
   have hb3' := of_decide_eq_true hb3
   refine sdc A vf hb3 λa A↦?_
   refine sdk (v := .bool true) A λa A↦?_
   refine sda A λa A↦?_
   refine qa (hK1 _ _ (wp_cond_true (A.ev rfl) ?_))
   refine wsk fun K4 hK4 => wrl (sdm A λa A↦?_)
   refine sdo A (qi rfl) λa A↦?_
   refine sdo (v := .pointer (some ⟨gw, 0, none⟩)) A (qb TwG_fld_42_0 rfl rfl) λa A↦?_
   refine sct A (ef rfl rfl) (zi hp (toW (X := []) M) hT (b := 92) (by first | omega | (simp only [List.length_append, List.length_cons, List.length_nil]; omega) | (simp only [List.length_append, List.length_cons, List.length_nil, ByteArray.size, List.size_toArray, Array.size]; omega))) ?_
   rintro _ w8 ⟨rfl, v5, hM6⟩
   replace M : Mg w0 w8 (.obj gw (.cells #[.pointer (some ⟨gw, 0, none⟩), v5, .bool pl] 42) :: .row BY 1 (v5) (((bs ++ ([92]))).length) ((Lib.byteCells ((bs ++ ([92]))))) :: T) := (qs (X := []) hM6)
   refine ⟨_, rfl, ?_⟩
   intro a A
   refine qa (hK4 _ _ (kq (S := fun w1 => Mg w0 w1 ([])) (by kernel_rfl) ?_))
   replace M := M.drew
   refine za A 0 rfl rfl rfl rfl hP (M.sub (.cons _ (.cons _ (List.nil_sublist _)))) (fun w1 M => jl rfl) λa A↦?_
   refine za A 1 rfl rfl rfl rfl hP (M.sub (.cons _ (.cons _ (List.nil_sublist _)))) (fun w1 M => qi rfl) λa A↦?_
   refine za (v := .pointer (some ⟨gw, 0, none⟩)) A 2 rfl rfl rfl rfl hP (M.sub (.cons _ (.cons _ (List.nil_sublist _)))) (fun w1 M => qb TwG_fld_42_0 rfl rfl) λa A↦?_
   refine za A 3 rfl rfl rfl rfl hP (M.sub (.cons _ (.cons _ (List.nil_sublist _)))) (fun w1 M => jl rfl) λa A↦?_
   refine za (v := .int .i32 (((n - 7 : Nat) : Int))) A 4 rfl rfl rfl rfl hP (M.sub (.cons _ (.cons _ (List.nil_sublist _)))) (fun w1 M => qe rfl rfl (ar_sub ((in_i32 (by omega) (by omega)).trans (by omega)))) λa A↦?_
   refine za (v := .int .u8 ((((abt (n - 7)).toNat : Nat) : Int))) A 5 rfl rfl rfl rfl hP (M.sub (.cons _ (.cons _ (List.nil_sublist _)))) (fun w1 M => qrb (m := n - 7) Tryz.underlying9 rfl rfl rfl (by omega)) λa A↦?_
   refine jp (by kernel_rfl) (xf A 6 rfl rfl rfl rfl (zp rfl rfl (fun w => by kernel_rfl)) (zi (.inr rfl) (toW (X := []) M) hT (b := abt (n - 7)) (by first | omega | (simp only [List.length_append, List.length_cons, List.length_nil]; omega) | (simp only [List.length_append, List.length_cons, List.length_nil, ByteArray.size, List.size_toArray, Array.size]; omega))) ?_)
   rintro _ w12 ⟨rfl, v9, hM10⟩
   replace M : Mg w0 w12 (.obj gw (.cells #[.pointer (some ⟨gw, 0, none⟩), v9, .bool pl] 42) :: .row BY 1 (v9) ((((bs ++ ([92])) ++ ([abt (n - 7)]))).length) ((Lib.byteCells (((bs ++ ([92])) ++ ([abt (n - 7)]))))) :: T) := (qs (X := []) hM10)
   refine ⟨_, rfl, (M.sub (.cons _ (.cons _ (List.nil_sublist _)))), ?_⟩
   intro a A
   refine xw (by kernel_rfl) ?_
   refine hnorm _ _ (ji (v := .tuple #[]) A rfl .nil rfl ?_)
   refine ⟨rfl, v9, ?_⟩
   have hM8 := M.sub (L' := _ :: _ :: T) (.cons_cons _ (.cons_cons _ (.refl _)))
   rw [show C.strC ((n : Nat) : Int) = ([92]) ++ ([abt (n - 7)]) from zgd (by omega) (by omega)]
   simpa only [List.append_assoc, List.append_nil, List.cons_append, List.nil_append] using hM8
  ·
   have hb3' := of_decide_eq_false hb3
   refine sdc A vf hb3 λa A↦?_
   refine sdk (v := .bool false) A λa A↦?_
   refine sda A λa A↦?_
   refine qa (hK1 _ _ (wp_cond_false (A.ev rfl) ?_))
   refine wsk fun K13 hK13 => wrl (sdm A λa A↦?_)
   rcases tf ((((n : Nat) : Int) == 34)) with hb14 | hb14
   ·
    have hb14' := eq_of_beq hb14
    refine sdc A qg hb14 λa A↦?_
    refine sdm A λa A↦?_
    iterate 2 refine qh A rfl rfl rfl λa A↦?_
    refine sdk (v := .bool true) A λa A↦?_
    refine sda A λa A↦?_
    refine qa (hK13 _ _ (wp_cond_true (A.ev rfl) ?_))
    refine wsk fun K15 hK15 => wrl (sdm A λa A↦?_)
    refine sdo A (qi rfl) λa A↦?_
    refine sdo (v := .pointer (some ⟨gw, 0, none⟩)) A (qb TwG_fld_42_0 rfl rfl) λa A↦?_
    refine sct A (ef rfl rfl) (zi hp (toW (X := []) M) hT (b := 92) (by first | omega | (simp only [List.length_append, List.length_cons, List.length_nil]; omega) | (simp only [List.length_append, List.length_cons, List.length_nil, ByteArray.size, List.size_toArray, Array.size]; omega))) ?_
    rintro _ w19 ⟨rfl, v16, hM17⟩
    replace M : Mg w0 w19 (.obj gw (.cells #[.pointer (some ⟨gw, 0, none⟩), v16, .bool pl] 42) :: .row BY 1 (v16) (((bs ++ ([92]))).length) ((Lib.byteCells ((bs ++ ([92]))))) :: T) := (qs (X := []) hM17)
    refine ⟨_, rfl, ?_⟩
    intro a A
    refine qa (hK15 _ _ (wrl (sdm A λa A↦?_)))
    refine sdo A (qi rfl) λa A↦?_
    refine sdo (v := .pointer (some ⟨gw, 0, none⟩)) A (qb TwG_fld_42_0 rfl rfl) λa A↦?_
    refine sdm A λa A↦?_
    refine sct A (ef rfl rfl) (xu (.inr rfl) (toW (X := []) M) hT (r := ((n : Nat) : Int)) (by omega) (by omega) (by first | omega | (simp only [List.length_append, List.length_cons, List.length_nil]; omega) | (simp only [List.length_append, List.length_cons, List.length_nil, ByteArray.size, List.size_toArray, Array.size]; omega))) ?_
    rintro _ w23 ⟨z22, rfl, v20, hM21⟩
    replace M : Mg w0 w23 (.obj gw (.cells #[.pointer (some ⟨gw, 0, none⟩), v20, .bool pl] 42) :: .row BY 1 (v20) ((((bs ++ ([92])) ++ (Lib.encodeRune (((n : Nat) : Int))))).length) ((Lib.byteCells (((bs ++ ([92])) ++ (Lib.encodeRune (((n : Nat) : Int))))))) :: T) := (qs (X := []) hM21)
    refine ⟨_, rfl, ?_⟩
    intro a A
    refine qa (hnorm _ _ (ji (v := .tuple #[]) A rfl .nil rfl ?_))
    refine ⟨rfl, v20, ?_⟩
    have hM8 := M.sub (L' := _ :: _ :: T) (.cons_cons _ (.cons_cons _ (.refl _)))
    rw [show C.strC ((n : Nat) : Int) = ([92]) ++ (Lib.encodeRune (((n : Nat) : Int))) from qbh (by omega)]
    simpa only [List.append_assoc, List.append_nil, List.cons_append, List.nil_append] using hM8
   ·
    have hb14' := ne_of_beq_false hb14
    refine sdc A qg hb14 λa A↦?_
    iterate 2 refine sdm A λa A↦?_
    rcases tf ((((n : Nat) : Int) == 92)) with hb24 | hb24
    ·
     have hb24' := eq_of_beq hb24
     refine sdc A qg hb24 λa A↦?_
     refine sdk (v := .bool true) A λa A↦?_
     refine sda A λa A↦?_
     refine qa (hK13 _ _ (wp_cond_true (A.ev rfl) ?_))
     refine wsk fun K25 hK25 => wrl (sdm A λa A↦?_)
     refine sdo A (qi rfl) λa A↦?_
     refine sdo (v := .pointer (some ⟨gw, 0, none⟩)) A (qb TwG_fld_42_0 rfl rfl) λa A↦?_
     refine sct A (ef rfl rfl) (zi hp (toW (X := []) M) hT (b := 92) (by first | omega | (simp only [List.length_append, List.length_cons, List.length_nil]; omega) | (simp only [List.length_append, List.length_cons, List.length_nil, ByteArray.size, List.size_toArray, Array.size]; omega))) ?_
     rintro _ w29 ⟨rfl, v26, hM27⟩
     replace M : Mg w0 w29 (.obj gw (.cells #[.pointer (some ⟨gw, 0, none⟩), v26, .bool pl] 42) :: .row BY 1 (v26) (((bs ++ ([92]))).length) ((Lib.byteCells ((bs ++ ([92]))))) :: T) := (qs (X := []) hM27)
     refine ⟨_, rfl, ?_⟩
     intro a A
     refine qa (hK25 _ _ (wrl (sdm A λa A↦?_)))
     refine sdo A (qi rfl) λa A↦?_
     refine sdo (v := .pointer (some ⟨gw, 0, none⟩)) A (qb TwG_fld_42_0 rfl rfl) λa A↦?_
     refine sdm A λa A↦?_
     refine sct A (ef rfl rfl) (xu (.inr rfl) (toW (X := []) M) hT (r := ((n : Nat) : Int)) (by omega) (by omega) (by first | omega | (simp only [List.length_append, List.length_cons, List.length_nil]; omega) | (simp only [List.length_append, List.length_cons, List.length_nil, ByteArray.size, List.size_toArray, Array.size]; omega))) ?_
     rintro _ w33 ⟨z32, rfl, v30, hM31⟩
     replace M : Mg w0 w33 (.obj gw (.cells #[.pointer (some ⟨gw, 0, none⟩), v30, .bool pl] 42) :: .row BY 1 (v30) ((((bs ++ ([92])) ++ (Lib.encodeRune (((n : Nat) : Int))))).length) ((Lib.byteCells (((bs ++ ([92])) ++ (Lib.encodeRune (((n : Nat) : Int))))))) :: T) := (qs (X := []) hM31)
     refine ⟨_, rfl, ?_⟩
     intro a A
     refine qa (hnorm _ _ (ji (v := .tuple #[]) A rfl .nil rfl ?_))
     refine ⟨rfl, v30, ?_⟩
     have hM8 := M.sub (L' := _ :: _ :: T) (.cons_cons _ (.cons_cons _ (.refl _)))
     rw [show C.strC ((n : Nat) : Int) = ([92]) ++ (Lib.encodeRune (((n : Nat) : Int))) from qbh (by omega)]
     simpa only [List.append_assoc, List.append_nil, List.cons_append, List.nil_append] using hM8
    ·
     have hb24' := ne_of_beq_false hb24
     refine sdc A qg hb24 λa A↦?_
     refine sdk (v := .bool false) A λa A↦?_
     refine sda A λa A↦?_
     refine qa (hK13 _ _ (wp_cond_false (A.ev rfl) ?_))
     refine wsk fun K34 hK34 => wrl (sdm A λa A↦?_)
     rcases tf (C.ctlB ((n : Nat) : Int)) with hb35 | hb35
     ·
      refine sct A (ef rfl rfl) ((hb35 ▸ C.ctl_any ((n : Nat) : Int) _)) ?_
      rintro _ w37 ⟨rfl, hw36⟩
      subst hw36
      refine ⟨_, rfl, ?_⟩
      intro a A
      refine sdm A λa A↦?_
      iterate 2 refine qh A rfl rfl rfl λa A↦?_
      refine sdk (v := .bool true) A λa A↦?_
      refine sdm A λa A↦?_
      iterate 2 refine qh A rfl rfl rfl λa A↦?_
      refine sdk (v := .bool true) A λa A↦?_
      refine sda A λa A↦?_
      refine qa (hK34 _ _ (wp_cond_true (A.ev rfl) ?_))
      refine wsk fun K38 hK38 => wrl ?_
      iterate 2 refine sdm A λa A↦?_
      refine sct A (ef rfl rfl) (qch hp (toW (X := []) M) hT (n := n) (by omega) hz (by first | omega | (simp only [List.length_append, List.length_cons, List.length_nil]; omega) | (simp only [List.length_append, List.length_cons, List.length_nil, ByteArray.size, List.size_toArray, Array.size]; omega))) ?_
      rintro _ w42 ⟨rfl, v39, hM40⟩
      replace M : Mg w0 w42 (.obj gw (.cells #[.pointer (some ⟨gw, 0, none⟩), v39, .bool pl] 42) :: .row BY 1 (v39) (((bs ++ (jk (((n : Nat) : Int))))).length) ((Lib.byteCells ((bs ++ (jk (((n : Nat) : Int))))))) :: T) := (qs (X := []) hM40)
      refine ⟨_, rfl, ?_⟩
      intro a A
      refine qa (hK38 _ _ (wrl (sdm A λa A↦?_)))
      refine sdo A (qi rfl) λa A↦?_
      refine sdo (v := .pointer (some ⟨gw, 0, none⟩)) A (qb TwG_fld_42_0 rfl rfl) λa A↦?_
      refine sct A (ef rfl rfl) (zi (.inr rfl) (toW (X := []) M) hT (b := 59) (by first | omega | (simp only [List.length_append, List.length_cons, List.length_nil]; omega) | (simp only [List.length_append, List.length_cons, List.length_nil, ByteArray.size, List.size_toArray, Array.size]; omega))) ?_
      rintro _ w46 ⟨rfl, v43, hM44⟩
      replace M : Mg w0 w46 (.obj gw (.cells #[.pointer (some ⟨gw, 0, none⟩), v43, .bool pl] 42) :: .row BY 1 (v43) ((((bs ++ (jk (((n : Nat) : Int)))) ++ ([59]))).length) ((Lib.byteCells (((bs ++ (jk (((n : Nat) : Int)))) ++ ([59]))))) :: T) := (qs (X := []) hM44)
      refine ⟨_, rfl, ?_⟩
      intro a A
      refine qa (hnorm _ _ (ji (v := .tuple #[]) A rfl .nil rfl ?_))
      refine ⟨rfl, v43, ?_⟩
      have hM8 := M.sub (L' := _ :: _ :: T) (.cons_cons _ (.cons_cons _ (.refl _)))
      rw [show C.strC ((n : Nat) : Int) = (jk (((n : Nat) : Int))) ++ ([59]) from vh (by omega) (by omega) (.inl hb35)]
      simpa only [List.append_assoc, List.append_nil, List.cons_append, List.nil_append] using hM8
     ·
      refine sct A (ef rfl rfl) ((hb35 ▸ C.ctl_any ((n : Nat) : Int) _)) ?_
      rintro _ w48 ⟨rfl, hw47⟩
      subst hw47
      refine ⟨_, rfl, ?_⟩
      intro a A
      iterate 2 refine sdm A λa A↦?_
      rcases tf ((((n : Nat) : Int) == 8232)) with hb49 | hb49
      ·
       have hb49' := eq_of_beq hb49
       refine sdc A qg hb49 λa A↦?_
       refine sdk (v := .bool true) A λa A↦?_
       refine sdm A λa A↦?_
       iterate 2 refine qh A rfl rfl rfl λa A↦?_
       refine sdk (v := .bool true) A λa A↦?_
       refine sda A λa A↦?_
       refine qa (hK34 _ _ (wp_cond_true (A.ev rfl) ?_))
       refine wsk fun K50 hK50 => wrl ?_
       iterate 2 refine sdm A λa A↦?_
       refine sct A (ef rfl rfl) (qch hp (toW (X := []) M) hT (n := n) (by omega) hz (by first | omega | (simp only [List.length_append, List.length_cons, List.length_nil]; omega) | (simp only [List.length_append, List.length_cons, List.length_nil, ByteArray.size, List.size_toArray, Array.size]; omega))) ?_
       rintro _ w54 ⟨rfl, v51, hM52⟩
       replace M : Mg w0 w54 (.obj gw (.cells #[.pointer (some ⟨gw, 0, none⟩), v51, .bool pl] 42) :: .row BY 1 (v51) (((bs ++ (jk (((n : Nat) : Int))))).length) ((Lib.byteCells ((bs ++ (jk (((n : Nat) : Int))))))) :: T) := (qs (X := []) hM52)
       refine ⟨_, rfl, ?_⟩
       intro a A
       refine qa (hK50 _ _ (wrl (sdm A λa A↦?_)))
       refine sdo A (qi rfl) λa A↦?_
       refine sdo (v := .pointer (some ⟨gw, 0, none⟩)) A (qb TwG_fld_42_0 rfl rfl) λa A↦?_
       refine sct A (ef rfl rfl) (zi (.inr rfl) (toW (X := []) M) hT (b := 59) (by first | omega | (simp only [List.length_append, List.length_cons, List.length_nil]; omega) | (simp only [List.length_append, List.length_cons, List.length_nil, ByteArray.size, List.size_toArray, Array.size]; omega))) ?_
       rintro _ w58 ⟨rfl, v55, hM56⟩
       replace M : Mg w0 w58 (.obj gw (.cells #[.pointer (some ⟨gw, 0, none⟩), v55, .bool pl] 42) :: .row BY 1 (v55) ((((bs ++ (jk (((n : Nat) : Int)))) ++ ([59]))).length) ((Lib.byteCells (((bs ++ (jk (((n : Nat) : Int)))) ++ ([59]))))) :: T) := (qs (X := []) hM56)
       refine ⟨_, rfl, ?_⟩
       intro a A
       refine qa (hnorm _ _ (ji (v := .tuple #[]) A rfl .nil rfl ?_))
       refine ⟨rfl, v55, ?_⟩
       have hM8 := M.sub (L' := _ :: _ :: T) (.cons_cons _ (.cons_cons _ (.refl _)))
       rw [show C.strC ((n : Nat) : Int) = (jk (((n : Nat) : Int))) ++ ([59]) from vh (by omega) (by omega) (.inr (by omega))]
       simpa only [List.append_assoc, List.append_nil, List.cons_append, List.nil_append] using hM8
      ·
       have hb49' := ne_of_beq_false hb49
       refine sdc A qg hb49 λa A↦?_
       refine sdk (v := .bool false) A λa A↦?_
       iterate 2 refine sdm A λa A↦?_
       rcases tf ((((n : Nat) : Int) == 65279)) with hb59 | hb59
       ·
        have hb59' := eq_of_beq hb59
        refine sdc A qg hb59 λa A↦?_
        refine sdk (v := .bool true) A λa A↦?_
        refine sda A λa A↦?_
        refine qa (hK34 _ _ (wp_cond_true (A.ev rfl) ?_))
        refine wsk fun K60 hK60 => wrl ?_
        iterate 2 refine sdm A λa A↦?_
        refine sct A (ef rfl rfl) (qch hp (toW (X := []) M) hT (n := n) (by omega) hz (by first | omega | (simp only [List.length_append, List.length_cons, List.length_nil]; omega) | (simp only [List.length_append, List.length_cons, List.length_nil, ByteArray.size, List.size_toArray, Array.size]; omega))) ?_
        rintro _ w64 ⟨rfl, v61, hM62⟩
        replace M : Mg w0 w64 (.obj gw (.cells #[.pointer (some ⟨gw, 0, none⟩), v61, .bool pl] 42) :: .row BY 1 (v61) (((bs ++ (jk (((n : Nat) : Int))))).length) ((Lib.byteCells ((bs ++ (jk (((n : Nat) : Int))))))) :: T) := (qs (X := []) hM62)
        refine ⟨_, rfl, ?_⟩
        intro a A
        refine qa (hK60 _ _ (wrl (sdm A λa A↦?_)))
        refine sdo A (qi rfl) λa A↦?_
        refine sdo (v := .pointer (some ⟨gw, 0, none⟩)) A (qb TwG_fld_42_0 rfl rfl) λa A↦?_
        refine sct A (ef rfl rfl) (zi (.inr rfl) (toW (X := []) M) hT (b := 59) (by first | omega | (simp only [List.length_append, List.length_cons, List.length_nil]; omega) | (simp only [List.length_append, List.length_cons, List.length_nil, ByteArray.size, List.size_toArray, Array.size]; omega))) ?_
        rintro _ w68 ⟨rfl, v65, hM66⟩
        replace M : Mg w0 w68 (.obj gw (.cells #[.pointer (some ⟨gw, 0, none⟩), v65, .bool pl] 42) :: .row BY 1 (v65) ((((bs ++ (jk (((n : Nat) : Int)))) ++ ([59]))).length) ((Lib.byteCells (((bs ++ (jk (((n : Nat) : Int)))) ++ ([59]))))) :: T) := (qs (X := []) hM66)
        refine ⟨_, rfl, ?_⟩
        intro a A
        refine qa (hnorm _ _ (ji (v := .tuple #[]) A rfl .nil rfl ?_))
        refine ⟨rfl, v65, ?_⟩
        have hM8 := M.sub (L' := _ :: _ :: T) (.cons_cons _ (.cons_cons _ (.refl _)))
        rw [show C.strC ((n : Nat) : Int) = (jk (((n : Nat) : Int))) ++ ([59]) from vh (by omega) (by omega) (.inr (by omega))]
        simpa only [List.append_assoc, List.append_nil, List.cons_append, List.nil_append] using hM8
       ·
        have hb59' := ne_of_beq_false hb59
        refine sdc A qg hb59 λa A↦?_
        refine sdk (v := .bool false) A λa A↦?_
        refine sda A λa A↦?_
        refine qa (hK34 _ _ (wp_cond_false (A.ev rfl) ?_))
        refine wrl (sdm A λa A↦?_)
        refine sdo A (qi rfl) λa A↦?_
        refine sdo (v := .pointer (some ⟨gw, 0, none⟩)) A (qb TwG_fld_42_0 rfl rfl) λa A↦?_
        refine sdm A λa A↦?_
        refine sct A (ef rfl rfl) (xu hp (toW (X := []) M) hT (r := ((n : Nat) : Int)) (by omega) (by omega) (by first | omega | (simp only [List.length_append, List.length_cons, List.length_nil]; omega) | (simp only [List.length_append, List.length_cons, List.length_nil, ByteArray.size, List.size_toArray, Array.size]; omega))) ?_
        rintro _ w72 ⟨z71, rfl, v69, hM70⟩
        replace M : Mg w0 w72 (.obj gw (.cells #[.pointer (some ⟨gw, 0, none⟩), v69, .bool pl] 42) :: .row BY 1 (v69) (((bs ++ (Lib.encodeRune (((n : Nat) : Int))))).length) ((Lib.byteCells ((bs ++ (Lib.encodeRune (((n : Nat) : Int))))))) :: T) := (qs (X := []) hM70)
        refine ⟨_, rfl, ?_⟩
        intro a A
        refine qa (hnorm _ _ (ji (v := .tuple #[]) A rfl .nil rfl ?_))
        refine ⟨rfl, v69, ?_⟩
        have hM8 := M.sub (L' := _ :: _ :: T) (.cons_cons _ (.cons_cons _ (.refl _)))
        rw [show C.strC ((n : Nat) : Int) = (Lib.encodeRune (((n : Nat) : Int))) from qdg (by omega) (by omega) (fun k => by rcases k with k | k; rw [hb35] at k; cases k; omega)]
        simpa only [List.append_assoc, List.append_nil, List.cons_append, List.nil_append] using hM8
 ·
  have hb2' := of_decide_eq_false hb2
  refine sdc A jh hb2 λa A↦?_
  refine sdm A λa A↦?_
  iterate 2 refine qh A rfl rfl rfl λa A↦?_
  refine sdk (v := .bool false) A λa A↦?_
  refine sda A λa A↦?_
  refine qa (hK1 _ _ (wp_cond_false (A.ev rfl) ?_))
  refine wsk fun K73 hK73 => wrl (sdm A λa A↦?_)
  rcases tf ((((n : Nat) : Int) == 34)) with hb74 | hb74
  ·
   have hb74' := eq_of_beq hb74
   refine sdc A qg hb74 λa A↦?_
   refine sdm A λa A↦?_
   iterate 2 refine qh A rfl rfl rfl λa A↦?_
   refine sdk (v := .bool true) A λa A↦?_
   refine sda A λa A↦?_
   refine qa (hK73 _ _ (wp_cond_true (A.ev rfl) ?_))
   refine wsk fun K75 hK75 => wrl (sdm A λa A↦?_)
   refine sdo A (qi rfl) λa A↦?_
   refine sdo (v := .pointer (some ⟨gw, 0, none⟩)) A (qb TwG_fld_42_0 rfl rfl) λa A↦?_
   refine sct A (ef rfl rfl) (zi hp (toW (X := []) M) hT (b := 92) (by first | omega | (simp only [List.length_append, List.length_cons, List.length_nil]; omega) | (simp only [List.length_append, List.length_cons, List.length_nil, ByteArray.size, List.size_toArray, Array.size]; omega))) ?_
   rintro _ w79 ⟨rfl, v76, hM77⟩
   replace M : Mg w0 w79 (.obj gw (.cells #[.pointer (some ⟨gw, 0, none⟩), v76, .bool pl] 42) :: .row BY 1 (v76) (((bs ++ ([92]))).length) ((Lib.byteCells ((bs ++ ([92]))))) :: T) := (qs (X := []) hM77)
   refine ⟨_, rfl, ?_⟩
   intro a A
   refine qa (hK75 _ _ (wrl (sdm A λa A↦?_)))
   refine sdo A (qi rfl) λa A↦?_
   refine sdo (v := .pointer (some ⟨gw, 0, none⟩)) A (qb TwG_fld_42_0 rfl rfl) λa A↦?_
   refine sdm A λa A↦?_
   refine sct A (ef rfl rfl) (xu (.inr rfl) (toW (X := []) M) hT (r := ((n : Nat) : Int)) (by omega) (by omega) (by first | omega | (simp only [List.length_append, List.length_cons, List.length_nil]; omega) | (simp only [List.length_append, List.length_cons, List.length_nil, ByteArray.size, List.size_toArray, Array.size]; omega))) ?_
   rintro _ w83 ⟨z82, rfl, v80, hM81⟩
   replace M : Mg w0 w83 (.obj gw (.cells #[.pointer (some ⟨gw, 0, none⟩), v80, .bool pl] 42) :: .row BY 1 (v80) ((((bs ++ ([92])) ++ (Lib.encodeRune (((n : Nat) : Int))))).length) ((Lib.byteCells (((bs ++ ([92])) ++ (Lib.encodeRune (((n : Nat) : Int))))))) :: T) := (qs (X := []) hM81)
   refine ⟨_, rfl, ?_⟩
   intro a A
   refine qa (hnorm _ _ (ji (v := .tuple #[]) A rfl .nil rfl ?_))
   refine ⟨rfl, v80, ?_⟩
   have hM8 := M.sub (L' := _ :: _ :: T) (.cons_cons _ (.cons_cons _ (.refl _)))
   rw [show C.strC ((n : Nat) : Int) = ([92]) ++ (Lib.encodeRune (((n : Nat) : Int))) from qbh (by omega)]
   simpa only [List.append_assoc, List.append_nil, List.cons_append, List.nil_append] using hM8
  ·
   have hb74' := ne_of_beq_false hb74
   refine sdc A qg hb74 λa A↦?_
   iterate 2 refine sdm A λa A↦?_
   rcases tf ((((n : Nat) : Int) == 92)) with hb84 | hb84
   ·
    have hb84' := eq_of_beq hb84
    refine sdc A qg hb84 λa A↦?_
    refine sdk (v := .bool true) A λa A↦?_
    refine sda A λa A↦?_
    refine qa (hK73 _ _ (wp_cond_true (A.ev rfl) ?_))
    refine wsk fun K85 hK85 => wrl (sdm A λa A↦?_)
    refine sdo A (qi rfl) λa A↦?_
    refine sdo (v := .pointer (some ⟨gw, 0, none⟩)) A (qb TwG_fld_42_0 rfl rfl) λa A↦?_
    refine sct A (ef rfl rfl) (zi hp (toW (X := []) M) hT (b := 92) (by first | omega | (simp only [List.length_append, List.length_cons, List.length_nil]; omega) | (simp only [List.length_append, List.length_cons, List.length_nil, ByteArray.size, List.size_toArray, Array.size]; omega))) ?_
    rintro _ w89 ⟨rfl, v86, hM87⟩
    replace M : Mg w0 w89 (.obj gw (.cells #[.pointer (some ⟨gw, 0, none⟩), v86, .bool pl] 42) :: .row BY 1 (v86) (((bs ++ ([92]))).length) ((Lib.byteCells ((bs ++ ([92]))))) :: T) := (qs (X := []) hM87)
    refine ⟨_, rfl, ?_⟩
    intro a A
    refine qa (hK85 _ _ (wrl (sdm A λa A↦?_)))
    refine sdo A (qi rfl) λa A↦?_
    refine sdo (v := .pointer (some ⟨gw, 0, none⟩)) A (qb TwG_fld_42_0 rfl rfl) λa A↦?_
    refine sdm A λa A↦?_
    refine sct A (ef rfl rfl) (xu (.inr rfl) (toW (X := []) M) hT (r := ((n : Nat) : Int)) (by omega) (by omega) (by first | omega | (simp only [List.length_append, List.length_cons, List.length_nil]; omega) | (simp only [List.length_append, List.length_cons, List.length_nil, ByteArray.size, List.size_toArray, Array.size]; omega))) ?_
    rintro _ w93 ⟨z92, rfl, v90, hM91⟩
    replace M : Mg w0 w93 (.obj gw (.cells #[.pointer (some ⟨gw, 0, none⟩), v90, .bool pl] 42) :: .row BY 1 (v90) ((((bs ++ ([92])) ++ (Lib.encodeRune (((n : Nat) : Int))))).length) ((Lib.byteCells (((bs ++ ([92])) ++ (Lib.encodeRune (((n : Nat) : Int))))))) :: T) := (qs (X := []) hM91)
    refine ⟨_, rfl, ?_⟩
    intro a A
    refine qa (hnorm _ _ (ji (v := .tuple #[]) A rfl .nil rfl ?_))
    refine ⟨rfl, v90, ?_⟩
    have hM8 := M.sub (L' := _ :: _ :: T) (.cons_cons _ (.cons_cons _ (.refl _)))
    rw [show C.strC ((n : Nat) : Int) = ([92]) ++ (Lib.encodeRune (((n : Nat) : Int))) from qbh (by omega)]
    simpa only [List.append_assoc, List.append_nil, List.cons_append, List.nil_append] using hM8
   ·
    have hb84' := ne_of_beq_false hb84
    refine sdc A qg hb84 λa A↦?_
    refine sdk (v := .bool false) A λa A↦?_
    refine sda A λa A↦?_
    refine qa (hK73 _ _ (wp_cond_false (A.ev rfl) ?_))
    refine wsk fun K94 hK94 => wrl (sdm A λa A↦?_)
    rcases tf (C.ctlB ((n : Nat) : Int)) with hb95 | hb95
    ·
     refine sct A (ef rfl rfl) ((hb95 ▸ C.ctl_any ((n : Nat) : Int) _)) ?_
     rintro _ w97 ⟨rfl, hw96⟩
     subst hw96
     refine ⟨_, rfl, ?_⟩
     intro a A
     refine sdm A λa A↦?_
     iterate 2 refine qh A rfl rfl rfl λa A↦?_
     refine sdk (v := .bool true) A λa A↦?_
     refine sdm A λa A↦?_
     iterate 2 refine qh A rfl rfl rfl λa A↦?_
     refine sdk (v := .bool true) A λa A↦?_
     refine sda A λa A↦?_
     refine qa (hK94 _ _ (wp_cond_true (A.ev rfl) ?_))
     refine wsk fun K98 hK98 => wrl ?_
     iterate 2 refine sdm A λa A↦?_
     refine sct A (ef rfl rfl) (qch hp (toW (X := []) M) hT (n := n) (by omega) hz (by first | omega | (simp only [List.length_append, List.length_cons, List.length_nil]; omega) | (simp only [List.length_append, List.length_cons, List.length_nil, ByteArray.size, List.size_toArray, Array.size]; omega))) ?_
     rintro _ w102 ⟨rfl, v99, hM100⟩
     replace M : Mg w0 w102 (.obj gw (.cells #[.pointer (some ⟨gw, 0, none⟩), v99, .bool pl] 42) :: .row BY 1 (v99) (((bs ++ (jk (((n : Nat) : Int))))).length) ((Lib.byteCells ((bs ++ (jk (((n : Nat) : Int))))))) :: T) := (qs (X := []) hM100)
     refine ⟨_, rfl, ?_⟩
     intro a A
     refine qa (hK98 _ _ (wrl (sdm A λa A↦?_)))
     refine sdo A (qi rfl) λa A↦?_
     refine sdo (v := .pointer (some ⟨gw, 0, none⟩)) A (qb TwG_fld_42_0 rfl rfl) λa A↦?_
     refine sct A (ef rfl rfl) (zi (.inr rfl) (toW (X := []) M) hT (b := 59) (by first | omega | (simp only [List.length_append, List.length_cons, List.length_nil]; omega) | (simp only [List.length_append, List.length_cons, List.length_nil, ByteArray.size, List.size_toArray, Array.size]; omega))) ?_
     rintro _ w106 ⟨rfl, v103, hM104⟩
     replace M : Mg w0 w106 (.obj gw (.cells #[.pointer (some ⟨gw, 0, none⟩), v103, .bool pl] 42) :: .row BY 1 (v103) ((((bs ++ (jk (((n : Nat) : Int)))) ++ ([59]))).length) ((Lib.byteCells (((bs ++ (jk (((n : Nat) : Int)))) ++ ([59]))))) :: T) := (qs (X := []) hM104)
     refine ⟨_, rfl, ?_⟩
     intro a A
     refine qa (hnorm _ _ (ji (v := .tuple #[]) A rfl .nil rfl ?_))
     refine ⟨rfl, v103, ?_⟩
     have hM8 := M.sub (L' := _ :: _ :: T) (.cons_cons _ (.cons_cons _ (.refl _)))
     rw [show C.strC ((n : Nat) : Int) = (jk (((n : Nat) : Int))) ++ ([59]) from vh (by omega) (by omega) (.inl hb95)]
     simpa only [List.append_assoc, List.append_nil, List.cons_append, List.nil_append] using hM8
    ·
     refine sct A (ef rfl rfl) ((hb95 ▸ C.ctl_any ((n : Nat) : Int) _)) ?_
     rintro _ w108 ⟨rfl, hw107⟩
     subst hw107
     refine ⟨_, rfl, ?_⟩
     intro a A
     iterate 2 refine sdm A λa A↦?_
     rcases tf ((((n : Nat) : Int) == 8232)) with hb109 | hb109
     ·
      have hb109' := eq_of_beq hb109
      refine sdc A qg hb109 λa A↦?_
      refine sdk (v := .bool true) A λa A↦?_
      refine sdm A λa A↦?_
      iterate 2 refine qh A rfl rfl rfl λa A↦?_
      refine sdk (v := .bool true) A λa A↦?_
      refine sda A λa A↦?_
      refine qa (hK94 _ _ (wp_cond_true (A.ev rfl) ?_))
      refine wsk fun K110 hK110 => wrl ?_
      iterate 2 refine sdm A λa A↦?_
      refine sct A (ef rfl rfl) (qch hp (toW (X := []) M) hT (n := n) (by omega) hz (by first | omega | (simp only [List.length_append, List.length_cons, List.length_nil]; omega) | (simp only [List.length_append, List.length_cons, List.length_nil, ByteArray.size, List.size_toArray, Array.size]; omega))) ?_
      rintro _ w114 ⟨rfl, v111, hM112⟩
      replace M : Mg w0 w114 (.obj gw (.cells #[.pointer (some ⟨gw, 0, none⟩), v111, .bool pl] 42) :: .row BY 1 (v111) (((bs ++ (jk (((n : Nat) : Int))))).length) ((Lib.byteCells ((bs ++ (jk (((n : Nat) : Int))))))) :: T) := (qs (X := []) hM112)
      refine ⟨_, rfl, ?_⟩
      intro a A
      refine qa (hK110 _ _ (wrl (sdm A λa A↦?_)))
      refine sdo A (qi rfl) λa A↦?_
      refine sdo (v := .pointer (some ⟨gw, 0, none⟩)) A (qb TwG_fld_42_0 rfl rfl) λa A↦?_
      refine sct A (ef rfl rfl) (zi (.inr rfl) (toW (X := []) M) hT (b := 59) (by first | omega | (simp only [List.length_append, List.length_cons, List.length_nil]; omega) | (simp only [List.length_append, List.length_cons, List.length_nil, ByteArray.size, List.size_toArray, Array.size]; omega))) ?_
      rintro _ w118 ⟨rfl, v115, hM116⟩
      replace M : Mg w0 w118 (.obj gw (.cells #[.pointer (some ⟨gw, 0, none⟩), v115, .bool pl] 42) :: .row BY 1 (v115) ((((bs ++ (jk (((n : Nat) : Int)))) ++ ([59]))).length) ((Lib.byteCells (((bs ++ (jk (((n : Nat) : Int)))) ++ ([59]))))) :: T) := (qs (X := []) hM116)
      refine ⟨_, rfl, ?_⟩
      intro a A
      refine qa (hnorm _ _ (ji (v := .tuple #[]) A rfl .nil rfl ?_))
      refine ⟨rfl, v115, ?_⟩
      have hM8 := M.sub (L' := _ :: _ :: T) (.cons_cons _ (.cons_cons _ (.refl _)))
      rw [show C.strC ((n : Nat) : Int) = (jk (((n : Nat) : Int))) ++ ([59]) from vh (by omega) (by omega) (.inr (by omega))]
      simpa only [List.append_assoc, List.append_nil, List.cons_append, List.nil_append] using hM8
     ·
      have hb109' := ne_of_beq_false hb109
      refine sdc A qg hb109 λa A↦?_
      refine sdk (v := .bool false) A λa A↦?_
      iterate 2 refine sdm A λa A↦?_
      rcases tf ((((n : Nat) : Int) == 65279)) with hb119 | hb119
      ·
       have hb119' := eq_of_beq hb119
       refine sdc A qg hb119 λa A↦?_
       refine sdk (v := .bool true) A λa A↦?_
       refine sda A λa A↦?_
       refine qa (hK94 _ _ (wp_cond_true (A.ev rfl) ?_))
       refine wsk fun K120 hK120 => wrl ?_
       iterate 2 refine sdm A λa A↦?_
       refine sct A (ef rfl rfl) (qch hp (toW (X := []) M) hT (n := n) (by omega) hz (by first | omega | (simp only [List.length_append, List.length_cons, List.length_nil]; omega) | (simp only [List.length_append, List.length_cons, List.length_nil, ByteArray.size, List.size_toArray, Array.size]; omega))) ?_
       rintro _ w124 ⟨rfl, v121, hM122⟩
       replace M : Mg w0 w124 (.obj gw (.cells #[.pointer (some ⟨gw, 0, none⟩), v121, .bool pl] 42) :: .row BY 1 (v121) (((bs ++ (jk (((n : Nat) : Int))))).length) ((Lib.byteCells ((bs ++ (jk (((n : Nat) : Int))))))) :: T) := (qs (X := []) hM122)
       refine ⟨_, rfl, ?_⟩
       intro a A
       refine qa (hK120 _ _ (wrl (sdm A λa A↦?_)))
       refine sdo A (qi rfl) λa A↦?_
       refine sdo (v := .pointer (some ⟨gw, 0, none⟩)) A (qb TwG_fld_42_0 rfl rfl) λa A↦?_
       refine sct A (ef rfl rfl) (zi (.inr rfl) (toW (X := []) M) hT (b := 59) (by first | omega | (simp only [List.length_append, List.length_cons, List.length_nil]; omega) | (simp only [List.length_append, List.length_cons, List.length_nil, ByteArray.size, List.size_toArray, Array.size]; omega))) ?_
       rintro _ w128 ⟨rfl, v125, hM126⟩
       replace M : Mg w0 w128 (.obj gw (.cells #[.pointer (some ⟨gw, 0, none⟩), v125, .bool pl] 42) :: .row BY 1 (v125) ((((bs ++ (jk (((n : Nat) : Int)))) ++ ([59]))).length) ((Lib.byteCells (((bs ++ (jk (((n : Nat) : Int)))) ++ ([59]))))) :: T) := (qs (X := []) hM126)
       refine ⟨_, rfl, ?_⟩
       intro a A
       refine qa (hnorm _ _ (ji (v := .tuple #[]) A rfl .nil rfl ?_))
       refine ⟨rfl, v125, ?_⟩
       have hM8 := M.sub (L' := _ :: _ :: T) (.cons_cons _ (.cons_cons _ (.refl _)))
       rw [show C.strC ((n : Nat) : Int) = (jk (((n : Nat) : Int))) ++ ([59]) from vh (by omega) (by omega) (.inr (by omega))]
       simpa only [List.append_assoc, List.append_nil, List.cons_append, List.nil_append] using hM8
      ·
       have hb119' := ne_of_beq_false hb119
       refine sdc A qg hb119 λa A↦?_
       refine sdk (v := .bool false) A λa A↦?_
       refine sda A λa A↦?_
       refine qa (hK94 _ _ (wp_cond_false (A.ev rfl) ?_))
       refine wrl (sdm A λa A↦?_)
       refine sdo A (qi rfl) λa A↦?_
       refine sdo (v := .pointer (some ⟨gw, 0, none⟩)) A (qb TwG_fld_42_0 rfl rfl) λa A↦?_
       refine sdm A λa A↦?_
       refine sct A (ef rfl rfl) (xu hp (toW (X := []) M) hT (r := ((n : Nat) : Int)) (by omega) (by omega) (by first | omega | (simp only [List.length_append, List.length_cons, List.length_nil]; omega) | (simp only [List.length_append, List.length_cons, List.length_nil, ByteArray.size, List.size_toArray, Array.size]; omega))) ?_
       rintro _ w132 ⟨z131, rfl, v129, hM130⟩
       replace M : Mg w0 w132 (.obj gw (.cells #[.pointer (some ⟨gw, 0, none⟩), v129, .bool pl] 42) :: .row BY 1 (v129) (((bs ++ (Lib.encodeRune (((n : Nat) : Int))))).length) ((Lib.byteCells ((bs ++ (Lib.encodeRune (((n : Nat) : Int))))))) :: T) := (qs (X := []) hM130)
       refine ⟨_, rfl, ?_⟩
       intro a A
       refine qa (hnorm _ _ (ji (v := .tuple #[]) A rfl .nil rfl ?_))
       refine ⟨rfl, v129, ?_⟩
       have hM8 := M.sub (L' := _ :: _ :: T) (.cons_cons _ (.cons_cons _ (.refl _)))
       rw [show C.strC ((n : Nat) : Int) = (Lib.encodeRune (((n : Nat) : Int))) from qdg (by omega) (by omega) (fun k => by rcases k with k | k; rw [hb95] at k; cases k; omega)]
       simpa only [List.append_assoc, List.append_nil, List.cons_append, List.nil_append] using hM8
theorem TwH_is1_4 : Is1 Tryz.prog 4 := ⟨⟨_, Tryz.underlying4, rfl⟩, by kernel_rfl⟩
theorem TwH_is1_5 : Is1 Tryz.prog 5 := ⟨⟨_, Tryz.underlying5, rfl⟩, by kernel_rfl⟩
theorem TwH_fld_42_0 : FieldAt Tryz.prog 42 0 0 := ⟨_, _, Tryz.underlying42, rfl, rfl, by kernel_rfl⟩
theorem TwH_fld_42_1 : FieldAt Tryz.prog 42 1 2 := ⟨_, _, Tryz.underlying42, rfl, rfl, by kernel_rfl⟩
theorem zrb {w0 w : World} {gw : Nat} {p v : Value} {pl : Bool} {bs : List UInt8} {T : List Ck} (hp : p = .pointer none ∨ p = .pointer (some ⟨gw, 0, none⟩)) (hM0 : Mg w0 w (.obj gw (.cells #[p, v, .bool pl] 42) :: .row BY 1 v bs.length (Lib.byteCells bs) :: T)) (hT : QT T) {s : ByteArray} (hs : s.size ≤ 2000000) (hz : C.Tz16 w0) (hroom : bs.length + (64 * s.size + 64) ≤ 1000000000) : Calls Tryz.prog 27 #[.pointer (some ⟨gw, 0, none⟩), .string s] w fun e w' => e = .returned (.tuple #[]) ∧ ∃ v', Mg w0 w' (.obj gw (.cells #[.pointer (some ⟨gw, 0, none⟩), v', .bool pl] 42) :: .row BY 1 v' (bs ++ (qcd pl s)).length (Lib.byteCells (bs ++ (qcd pl s))) :: T) := by
 have hsl := zf s
 have M : Mg w0 w (.obj gw (.cells #[p, v, .bool pl] 42) :: .row BY 1 (v) bs.length ((Lib.byteCells bs)) :: T) := hM0
 refine qm (l := [(0, .pointer (some ⟨gw, 0, none⟩)), (1, .string s)]) Tryz.func27 rfl Tryz.ntmps27 rfl rfl ?_
 intro Q hret hnorm hP a A
 refine wsk fun K1 hK1 => wsk fun K2 hK2 => wrl (sdm A λa A↦?_)
 refine sdo A (qi rfl) λa A↦?_
 refine sdo (v := .pointer (some ⟨gw, 2, none⟩)) A (qb TwH_fld_42_1 rfl rfl) λa A↦?_
 refine sdo A (qk M TwH_is1_4 rfl 0 rfl rfl) λa A↦?_
 refine qa (hK2 _ _ ?_)
 refine wp_cond_split (t := pl) (A.ev rfl) (fun hc3 => ?_) (fun hc3 => ?_)
 ·
  refine wsk fun K4 hK4 => wrl (sdm A λa A↦?_)
  refine sdo A (qi rfl) λa A↦?_
  refine sdo (v := .pointer (some ⟨gw, 0, none⟩)) A (qb TwH_fld_42_0 rfl rfl) λa A↦?_
  refine sdm A λa A↦?_
  refine sct A (ef rfl rfl) (ja hp (toW (X := []) M) (s := s) (by first | omega | (simp only [List.length_append, List.length_cons, List.length_nil]; omega) | (simp only [List.length_append, List.length_cons, List.length_nil, ByteArray.size, List.size_toArray, Array.size]; omega))) ?_
  rintro _ w8 ⟨rfl, v5, hM6⟩
  replace M : Mg w0 w8 (.obj gw (.cells #[.pointer (some ⟨gw, 0, none⟩), v5, .bool pl] 42) :: .row BY 1 (v5) (((bs ++ s.data.toList)).length) ((Lib.byteCells ((bs ++ s.data.toList)))) :: T) := (qs (X := []) hM6)
  refine ⟨_, rfl, ?_⟩
  intro a A
  refine qa (hK4 _ _ (wp_ret (hret _ _ (ji (v := .tuple #[]) A rfl .nil rfl ?_))))
  refine ⟨rfl, v5, ?_⟩
  have hM8 := M.sub (L' := _ :: _ :: T) (.cons_cons _ (.cons_cons _ (.refl _)))
  rw [show qcd pl s = s.data.toList from (show qcd pl s = _ from if_pos hc3)]
  simpa only [List.append_assoc, List.append_nil, List.cons_append, List.nil_append] using hM8
 ·
  refine wp_skip (hK1 _ _ (wsk fun K9 hK9 => wrl (sdm A λa A↦?_)))
  refine sdo A (qi rfl) λa A↦?_
  refine sdo (v := .pointer (some ⟨gw, 0, none⟩)) A (qb TwH_fld_42_0 rfl rfl) λa A↦?_
  refine sct A (ef rfl rfl) (zi hp (toW (X := []) M) hT (b := 34) (by first | omega | (simp only [List.length_append, List.length_cons, List.length_nil]; omega) | (simp only [List.length_append, List.length_cons, List.length_nil, ByteArray.size, List.size_toArray, Array.size]; omega))) ?_
  rintro _ w13 ⟨rfl, v10, hM11⟩
  replace M : Mg w0 w13 (.obj gw (.cells #[.pointer (some ⟨gw, 0, none⟩), v10, .bool pl] 42) :: .row BY 1 (v10) (((bs ++ ([34]))).length) ((Lib.byteCells ((bs ++ ([34]))))) :: T) := (qs (X := []) hM11)
  refine ⟨_, rfl, ?_⟩
  intro a A
  refine qa (hK9 _ _ (wsk fun K14 hK14 => wsk fun K15 hK15 => wrl (sdm A λa A↦?_)))
  refine qic A M rfl Tryz.underlying9 rfl rfl rfl rfl ?_
  intro g16 w17 M a A
  refine qa (hK15 _ _ (wp_block ?_))
  replace M : Mg w0 w17 (.obj g16 (.stringIter s 0) :: .obj gw (.cells #[.pointer (some ⟨gw, 0, none⟩), v10, .bool pl] 42) :: .row BY 1 (v10) ((((bs ++ [34]) ++ [])).length) ((Lib.byteCells (((bs ++ [34]) ++ [])))) :: T) := by
   have h9 := M
   simp only [List.append_assoc, List.append_nil, List.nil_append] at h9 ⊢
   exact h9
  refine zt (fun m_ a w1 => ∃ (p_ : Nat) (acc : List UInt8) (vo : Value), m_ = 1 + (s.size - p_) ∧ (acc ++ (ym s p_).flatMap C.strC = (qn s.data.toList).flatMap C.strC ∧ acc.length ≤ 9 * p_ ∧ p_ ≤ s.size) ∧ Sl a 31 [(0, .pointer (some ⟨gw, 0, none⟩)), (1, .string s), (6, .pointer (some ⟨gw, 0, none⟩)), (7, .pointer (some ⟨gw, 0, none⟩)), (8, .pointer (some ⟨gw, 2, none⟩)), (9, .bool pl), (15, .pointer (some ⟨gw, 0, none⟩)), (16, .pointer (some ⟨gw, 0, none⟩)), (17, .pointer (some ⟨gw, 0, none⟩)), (18, .nilIface), (19, .string s), (20, .pointer (some ⟨g16, 0, none⟩))] ∧ Mg w0 w1 (.obj g16 (.stringIter s p_) :: .obj gw (.cells #[.pointer (some ⟨gw, 0, none⟩), vo, .bool pl] 42) :: .row BY 1 (vo) (((bs ++ [34]) ++ acc).length) ((Lib.byteCells ((bs ++ [34]) ++ acc))) :: T)) _ ⟨0, [], v10, rfl, ⟨by rw [List.nil_append, yu], Nat.zero_le _, Nat.zero_le _⟩, A.keep _ ⟨rfl, rfl, rfl, rfl, rfl, rfl, rfl, rfl, rfl, rfl, rfl, rfl, trivial⟩, M⟩ ?_
  clear M A
  rintro m_ a w18 ⟨p_, acc, vo, rfl, hinv20, A, M⟩ K19 hK19
  obtain ⟨hin9, ha9, hp9⟩ := hinv20
  refine wsk fun K21 hK21 => wrl ?_
  by_cases hx22 : p_ < s.size
  ·
   obtain ⟨cr24, cq25, he26⟩ : ∃ r q, Utf8.decode s p_ = (r, q) := ⟨_, _, rfl⟩
   refine qpa (L' := (.obj g16 (.stringIter s (p_ + cq25)) :: .obj gw (.cells #[.pointer (some ⟨gw, 0, none⟩), vo, .bool pl] 42) :: .row BY 1 (vo) (((bs ++ [34]) ++ acc).length) ((Lib.byteCells ((bs ++ [34]) ++ acc))) :: T)) A M rfl rfl 0 rfl hx22 rfl rfl rfl he26 rfl ?_
   intro w23 M a A
   refine sdo A (qp (vs := [.bool true, .int .i64 (((p_ : Nat) : Int)), .int .i32 (((cr24 : Nat) : Int))]) rfl rfl) λa A↦?_
   refine qa (hK21 _ _ (wsk fun K27 hK27 => wp_cond_true (A.ev rfl) ?_))
   refine wp_skip (hK27 _ _ (wp_block (wsk fun K28 hK28 => wrl (sdo A (qp (vs := [.bool true, .int .i64 (((p_ : Nat) : Int)), .int .i32 (((cr24 : Nat) : Int))]) rfl rfl) λa A↦?_))))
   refine sda A λa A↦?_
   refine qa (hK28 _ _ (wrl ?_))
   iterate 2 refine sdm A λa A↦?_
   refine sct A (ef rfl rfl) (zph (.inr rfl) (toW (X := [.obj g16 (.stringIter s (p_ + cq25))]) M) (QT.it hT) (n := cr24) (xe he26) hz (by first | omega | (simp only [List.length_append, List.length_cons, List.length_nil]; omega) | (simp only [List.length_append, List.length_cons, List.length_nil, ByteArray.size, List.size_toArray, Array.size]; omega))) ?_
   rintro _ w32 ⟨rfl, v29, hM30⟩
   replace M : Mg w0 w32 (.obj g16 (.stringIter s (p_ + cq25)) :: .obj gw (.cells #[.pointer (some ⟨gw, 0, none⟩), v29, .bool pl] 42) :: .row BY 1 (v29) (((((bs ++ [34]) ++ acc) ++ (C.strC (((cr24 : Nat) : Int))))).length) ((Lib.byteCells ((((bs ++ [34]) ++ acc) ++ (C.strC (((cr24 : Nat) : Int))))))) :: T) := (qs (X := [.obj g16 (.stringIter s (p_ + cq25))]) hM30)
   refine ⟨_, rfl, ?_⟩
   intro a A
   refine qa ?_
   replace M : Mg w0 w32 (.obj g16 (.stringIter s (p_ + cq25)) :: .obj gw (.cells #[.pointer (some ⟨gw, 0, none⟩), v29, .bool pl] 42) :: .row BY 1 (v29) ((((bs ++ [34]) ++ (acc ++ C.strC ((cr24 : Nat) : Int)))).length) ((Lib.byteCells (((bs ++ [34]) ++ (acc ++ C.strC ((cr24 : Nat) : Int)))))) :: T) := by
    have h9 := M
    simp only [List.append_assoc, List.append_nil, List.nil_append] at h9 ⊢
    exact h9
   have hz9 := (yt hx22 he26).2
   have hs9 := qrd (vd (xe he26))
   refine hK19 _ _ _ (by omega) ⟨p_ + cq25, acc ++ C.strC ((cr24 : Nat) : Int), v29, rfl, ⟨by rw [← hin9, zm hx22 he26, List.flatMap_cons, List.append_assoc], by rw [List.length_append]; omega, by omega⟩, A.keep _ ⟨rfl, rfl, rfl, rfl, rfl, rfl, rfl, rfl, rfl, rfl, rfl, rfl, trivial⟩, M⟩
  ·
   refine qpb A M rfl rfl 0 rfl hx22 rfl rfl rfl λa A↦?_
   refine sdo A (qp (vs := [.bool false]) rfl rfl) λa A↦?_
   refine qa (hK21 _ _ (wsk fun K33 hK33 => wp_cond_false (A.ev rfl) ?_))
   refine wp_exit (hK14 _ _ (wrl (sdm A λa A↦?_)))
   refine sdo A (qi rfl) λa A↦?_
   refine sdo (v := .pointer (some ⟨gw, 0, none⟩)) A (qb TwH_fld_42_0 rfl rfl) λa A↦?_
   refine sct A (ef rfl rfl) (zi (.inr rfl) (toW (X := [.obj g16 (.stringIter s p_)]) M) (QT.it hT) (b := 34) (by first | omega | (simp only [List.length_append, List.length_cons, List.length_nil]; omega) | (simp only [List.length_append, List.length_cons, List.length_nil, ByteArray.size, List.size_toArray, Array.size]; omega))) ?_
   rintro _ w37 ⟨rfl, v34, hM35⟩
   replace M : Mg w0 w37 (.obj g16 (.stringIter s p_) :: .obj gw (.cells #[.pointer (some ⟨gw, 0, none⟩), v34, .bool pl] 42) :: .row BY 1 (v34) (((((bs ++ [34]) ++ acc) ++ ([34]))).length) ((Lib.byteCells ((((bs ++ [34]) ++ acc) ++ ([34]))))) :: T) := (qs (X := [.obj g16 (.stringIter s p_)]) hM35)
   refine ⟨_, rfl, ?_⟩
   intro a A
   refine qa (hnorm _ _ (ji (v := .tuple #[]) A rfl .nil rfl ?_))
   refine ⟨rfl, v34, ?_⟩
   have hM8 := M.sub (L' := _ :: _ :: T) (.cons _ (.cons_cons _ (.cons_cons _ (.refl _))))
   rw [show qcd pl s = ([34]) ++ (acc ++ ([34])) from (by unfold qcd; rw [if_neg (by rw [hc3]; decide), ← hin9, yv hx22, List.flatMap_nil, List.append_nil, List.append_assoc])]
   simpa only [List.append_assoc, List.append_nil, List.cons_append, List.nil_append] using hM8
theorem zie {w0 w : World} {gw : Nat} {p v : Value} {pl : Bool} {bs : List UInt8} {T : List Ck} (hp : p = .pointer none ∨ p = .pointer (some ⟨gw, 0, none⟩)) (hM0 : Mg w0 w (.obj gw (.cells #[p, v, .bool pl] 42) :: .row BY 1 v bs.length (Lib.byteCells bs) :: T)) (hT : QT T) {s : ByteArray} {fi : Bool} (hne : s.size ≠ 0 ∨ p = .pointer (some ⟨gw, 0, none⟩)) (hs : s.size ≤ 2000000) (hz : C.Tz16 w0) (hroom : bs.length + (64 * s.size + 64) ≤ 1000000000) : Calls Tryz.prog 59 #[.pointer (some ⟨gw, 0, none⟩), .string s, .bool fi] w fun e w' => e = .returned (.tuple #[]) ∧ ∃ v', Mg w0 w' (.obj gw (.cells #[.pointer (some ⟨gw, 0, none⟩), v', .bool pl] 42) :: .row BY 1 v' (bs ++ (inL fi (qn s.data.toList))).length (Lib.byteCells (bs ++ (inL fi (qn s.data.toList)))) :: T) := by
 have M : Mg w0 w (.obj gw (.cells #[p, v, .bool pl] 42) :: .row BY 1 (v) bs.length ((Lib.byteCells bs)) :: T) := hM0
 refine qm (l := [(0, .pointer (some ⟨gw, 0, none⟩)), (1, .string s), (2, .bool fi)]) Tryz.func59 rfl Tryz.ntmps59 rfl rfl ?_
 intro Q hret hnorm hP a A
 refine wsk fun K1 hK1 => wrl (sdm A λa A↦?_)
 refine qic A M rfl Tryz.underlying9 rfl rfl rfl rfl ?_
 intro g2 w3 M a A
 refine qa (hK1 _ _ (wp_block ?_))
 replace M : Mg w0 w3 (.obj g2 (.stringIter s 0) :: .obj gw (.cells #[p, v, .bool pl] 42) :: .row BY 1 (v) (((bs ++ [])).length) ((Lib.byteCells ((bs ++ [])))) :: T) := by
  have h9 := M
  simp only [List.append_assoc, List.append_nil, List.nil_append] at h9 ⊢
  exact h9
 refine zt (fun m_ a w1 => ∃ (p_ : Nat) (fl : Bool) (acc : List UInt8) (vo : Value) (po : Value), m_ = 1 + (s.size - p_) ∧ ((po = .pointer (some ⟨gw, 0, none⟩) ∨ (p_ = 0 ∧ po = p)) ∧ acc ++ inL fl (ym s p_) = inL fi (qn s.data.toList) ∧ acc.length ≤ 9 * p_ ∧ p_ ≤ s.size) ∧ Sl a 35 [(0, .pointer (some ⟨gw, 0, none⟩)), (1, .string s), (2, .bool fl), (8, .string s), (9, .pointer (some ⟨g2, 0, none⟩))] ∧ Mg w0 w1 (.obj g2 (.stringIter s p_) :: .obj gw (.cells #[po, vo, .bool pl] 42) :: .row BY 1 (vo) ((bs ++ acc).length) ((Lib.byteCells (bs ++ acc))) :: T)) _ ⟨0, fi, [], v, p, rfl, ⟨.inr ⟨rfl, rfl⟩, by rw [List.nil_append, yu], Nat.zero_le _, Nat.zero_le _⟩, A.keep _ ⟨rfl, rfl, rfl, rfl, rfl, trivial⟩, M⟩ ?_
 clear M A
 rintro m_ a w4 ⟨p_, fl, acc, vo, po, rfl, hinv6, A, M⟩ K5 hK5
 obtain ⟨hpq, hin9, ha9, hp9⟩ := hinv6
 have hpo : po = .pointer none ∨ po = .pointer (some ⟨gw, 0, none⟩) := by
  rcases hpq with h | ⟨_, h⟩
  ·
   exact .inr h
  ·
   rw [h]; exact hp
 refine wsk fun K7 hK7 => wrl ?_
 by_cases hx8 : p_ < s.size
 ·
  obtain ⟨cr10, cq11, he12⟩ : ∃ r q, Utf8.decode s p_ = (r, q) := ⟨_, _, rfl⟩
  refine qpa (L' := (.obj g2 (.stringIter s (p_ + cq11)) :: .obj gw (.cells #[po, vo, .bool pl] 42) :: .row BY 1 (vo) ((bs ++ acc).length) ((Lib.byteCells (bs ++ acc))) :: T)) A M rfl rfl 0 rfl hx8 rfl rfl rfl he12 rfl ?_
  intro w9 M a A
  refine sdo A (qp (vs := [.bool true, .int .i64 (((p_ : Nat) : Int)), .int .i32 (((cr10 : Nat) : Int))]) rfl rfl) λa A↦?_
  refine qa (hK7 _ _ (wsk fun K13 hK13 => wp_cond_true (A.ev rfl) ?_))
  refine wp_skip (hK13 _ _ (wp_block (wsk fun K14 hK14 => ?_)))
  have hz9 := (yt hx8 he12).2
  have hc9 := vd (xe he12)
  have hcw8 := ui hc9
  have hen4 := yd ((cr10 : Nat) : Int)
  refine wrl (sdo A (qp (vs := [.bool true, .int .i64 (((p_ : Nat) : Int)), .int .i32 (((cr10 : Nat) : Int))]) rfl rfl) λa A↦?_)
  refine sda A λa A↦?_
  refine qa (hK14 _ _ (wsk fun K15 hK15 => wsk fun K16 hK16 => wrl (sdm A λa A↦?_)))
  rcases tf (C.firstB (((cr10 : Nat) : Int))) with hb17 | hb17
  ·
   refine gcl A M (ef rfl rfl) ((hb17 ▸ C.isFirst_any (((cr10 : Nat) : Int)) (xe he12) _)) fun w19 hb18 M a A => ?_
   refine sdm A λa A↦?_
   iterate 3 refine qh A rfl rfl rfl λa A↦?_
   iterate 2 refine yb A rfl rfl rfl λa A↦?_
   refine qh A rfl rfl rfl λa A↦?_
   refine sdk (v := .bool true) A λa A↦?_
   refine qa (hK16 _ _ (wp_cond_true (A.ev rfl) ?_))
   refine wrl (sdm A λa A↦?_)
   refine sdo A (qi rfl) λa A↦?_
   refine sdo (v := .pointer (some ⟨gw, 0, none⟩)) A (qb TwH_fld_42_0 rfl rfl) λa A↦?_
   refine sdm A λa A↦?_
   refine sct A (ef rfl rfl) (xu hpo (toW (X := [.obj g2 (.stringIter s (p_ + cq11))]) M) (QT.it hT) (r := ((cr10 : Nat) : Int)) (by omega) (by omega) (by first | omega | (simp only [List.length_append, List.length_cons, List.length_nil]; omega) | (simp only [List.length_append, List.length_cons, List.length_nil, ByteArray.size, List.size_toArray, Array.size]; omega))) ?_
   rintro _ w23 ⟨z22, rfl, v20, hM21⟩
   replace M : Mg w0 w23 (.obj g2 (.stringIter s (p_ + cq11)) :: .obj gw (.cells #[.pointer (some ⟨gw, 0, none⟩), v20, .bool pl] 42) :: .row BY 1 (v20) ((((bs ++ acc) ++ (Lib.encodeRune (((cr10 : Nat) : Int))))).length) ((Lib.byteCells (((bs ++ acc) ++ (Lib.encodeRune (((cr10 : Nat) : Int))))))) :: T) := (qs (X := [.obj g2 (.stringIter s (p_ + cq11))]) hM21)
   refine ⟨_, rfl, ?_⟩
   intro a A
   refine qa (hK15 _ _ (wrl (sda A λa A↦?_)))
   refine qa ?_
   have hq9 : inS fl ((cr10 : Nat) : Int) = Lib.encodeRune ((cr10 : Nat) : Int) := qkb (by rw [hb17]; simp)
   replace M : Mg w0 w23 (.obj g2 (.stringIter s (p_ + cq11)) :: .obj gw (.cells #[.pointer (some ⟨gw, 0, none⟩), v20, .bool pl] 42) :: .row BY 1 (v20) (((bs ++ (acc ++ inS fl ((cr10 : Nat) : Int)))).length) ((Lib.byteCells ((bs ++ (acc ++ inS fl ((cr10 : Nat) : Int)))))) :: T) := by
    have h9 := M
    rw [hq9]
    simp only [List.append_assoc] at h9 ⊢
    exact h9
   have hs9 := kf fl hc9
   refine hK5 _ _ _ (by omega) ⟨p_ + cq11, false, acc ++ inS fl ((cr10 : Nat) : Int), v20, .pointer (some ⟨gw, 0, none⟩), rfl, ⟨.inl rfl, by rw [← hin9, zm hx8 he12, qaj, List.append_assoc], by rw [List.length_append]; omega, by omega⟩, A.keep _ ⟨rfl, rfl, rfl, rfl, rfl, trivial⟩, M⟩
  ·
   refine gcl A M (ef rfl rfl) ((hb17 ▸ C.isFirst_any (((cr10 : Nat) : Int)) (xe he12) _)) fun w25 hb24 M a A => ?_
   iterate 2 refine sdm A λa A↦?_
   rcases fl with _ | _
   ·
    refine sdo (v := .bool true) A (qy rfl zj) λa A↦?_
    iterate 2 refine sdm A λa A↦?_
    rcases tf (C.restB (((cr10 : Nat) : Int))) with hb26 | hb26
    ·
     refine gcl A M (ef rfl rfl) ((hb26 ▸ C.isRest_any (((cr10 : Nat) : Int)) (xe he12) _)) fun w28 hb27 M a A => ?_
     iterate 2 refine sdk (v := .bool true) A λa A↦?_
     refine qa (hK16 _ _ (wp_cond_true (A.ev rfl) ?_))
     refine wrl (sdm A λa A↦?_)
     refine sdo A (qi rfl) λa A↦?_
     refine sdo (v := .pointer (some ⟨gw, 0, none⟩)) A (qb TwH_fld_42_0 rfl rfl) λa A↦?_
     refine sdm A λa A↦?_
     refine sct A (ef rfl rfl) (xu hpo (toW (X := [.obj g2 (.stringIter s (p_ + cq11))]) M) (QT.it hT) (r := ((cr10 : Nat) : Int)) (by omega) (by omega) (by first | omega | (simp only [List.length_append, List.length_cons, List.length_nil]; omega) | (simp only [List.length_append, List.length_cons, List.length_nil, ByteArray.size, List.size_toArray, Array.size]; omega))) ?_
     rintro _ w32 ⟨z31, rfl, v29, hM30⟩
     replace M : Mg w0 w32 (.obj g2 (.stringIter s (p_ + cq11)) :: .obj gw (.cells #[.pointer (some ⟨gw, 0, none⟩), v29, .bool pl] 42) :: .row BY 1 (v29) ((((bs ++ acc) ++ (Lib.encodeRune (((cr10 : Nat) : Int))))).length) ((Lib.byteCells (((bs ++ acc) ++ (Lib.encodeRune (((cr10 : Nat) : Int))))))) :: T) := (qs (X := [.obj g2 (.stringIter s (p_ + cq11))]) hM30)
     refine ⟨_, rfl, ?_⟩
     intro a A
     refine qa (hK15 _ _ (wrl (sda A λa A↦?_)))
     refine qa ?_
     have hq9 : inS false ((cr10 : Nat) : Int) = Lib.encodeRune ((cr10 : Nat) : Int) := qkb (by rw [hb17, hb26]; rfl)
     replace M : Mg w0 w32 (.obj g2 (.stringIter s (p_ + cq11)) :: .obj gw (.cells #[.pointer (some ⟨gw, 0, none⟩), v29, .bool pl] 42) :: .row BY 1 (v29) (((bs ++ (acc ++ inS false ((cr10 : Nat) : Int)))).length) ((Lib.byteCells ((bs ++ (acc ++ inS false ((cr10 : Nat) : Int)))))) :: T) := by
      have h9 := M
      rw [hq9]
      simp only [List.append_assoc] at h9 ⊢
      exact h9
     have hs9 := kf false hc9
     refine hK5 _ _ _ (by omega) ⟨p_ + cq11, false, acc ++ inS false ((cr10 : Nat) : Int), v29, .pointer (some ⟨gw, 0, none⟩), rfl, ⟨.inl rfl, by rw [← hin9, zm hx8 he12, qaj, List.append_assoc], by rw [List.length_append]; omega, by omega⟩, A.keep _ ⟨rfl, rfl, rfl, rfl, rfl, trivial⟩, M⟩
    ·
     refine gcl A M (ef rfl rfl) ((hb26 ▸ C.isRest_any (((cr10 : Nat) : Int)) (xe he12) _)) fun w34 hb33 M a A => ?_
     iterate 2 refine sdk (v := .bool false) A λa A↦?_
     refine qa (hK16 _ _ (wp_cond_false (A.ev rfl) ?_))
     refine wsk fun K35 hK35 => wrl ?_
     iterate 2 refine sdm A λa A↦?_
     refine sct A (ef rfl rfl) (qch hpo (toW (X := [.obj g2 (.stringIter s (p_ + cq11))]) M) (QT.it hT) (n := cr10) (vd (xe he12)) hz (by first | omega | (simp only [List.length_append, List.length_cons, List.length_nil]; omega) | (simp only [List.length_append, List.length_cons, List.length_nil, ByteArray.size, List.size_toArray, Array.size]; omega))) ?_
     rintro _ w39 ⟨rfl, v36, hM37⟩
     replace M : Mg w0 w39 (.obj g2 (.stringIter s (p_ + cq11)) :: .obj gw (.cells #[.pointer (some ⟨gw, 0, none⟩), v36, .bool pl] 42) :: .row BY 1 (v36) ((((bs ++ acc) ++ (jk (((cr10 : Nat) : Int))))).length) ((Lib.byteCells (((bs ++ acc) ++ (jk (((cr10 : Nat) : Int))))))) :: T) := (qs (X := [.obj g2 (.stringIter s (p_ + cq11))]) hM37)
     refine ⟨_, rfl, ?_⟩
     intro a A
     refine qa (hK35 _ _ (wrl (sdm A λa A↦?_)))
     refine sdo A (qi rfl) λa A↦?_
     refine sdo (v := .pointer (some ⟨gw, 0, none⟩)) A (qb TwH_fld_42_0 rfl rfl) λa A↦?_
     refine sct A (ef rfl rfl) (zi (.inr rfl) (toW (X := [.obj g2 (.stringIter s (p_ + cq11))]) M) (QT.it hT) (b := 59) (by first | omega | (simp only [List.length_append, List.length_cons, List.length_nil]; omega) | (simp only [List.length_append, List.length_cons, List.length_nil, ByteArray.size, List.size_toArray, Array.size]; omega))) ?_
     rintro _ w43 ⟨rfl, v40, hM41⟩
     replace M : Mg w0 w43 (.obj g2 (.stringIter s (p_ + cq11)) :: .obj gw (.cells #[.pointer (some ⟨gw, 0, none⟩), v40, .bool pl] 42) :: .row BY 1 (v40) (((((bs ++ acc) ++ (jk (((cr10 : Nat) : Int)))) ++ ([59]))).length) ((Lib.byteCells ((((bs ++ acc) ++ (jk (((cr10 : Nat) : Int)))) ++ ([59]))))) :: T) := (qs (X := [.obj g2 (.stringIter s (p_ + cq11))]) hM41)
     refine ⟨_, rfl, ?_⟩
     intro a A
     refine qa (hK15 _ _ (wrl (sda A λa A↦?_)))
     refine qa ?_
     have hq9 : inS false ((cr10 : Nat) : Int) = jk ((cr10 : Nat) : Int) ++ [59] := qne (by rw [hb17, hb26]; rfl)
     replace M : Mg w0 w43 (.obj g2 (.stringIter s (p_ + cq11)) :: .obj gw (.cells #[.pointer (some ⟨gw, 0, none⟩), v40, .bool pl] 42) :: .row BY 1 (v40) (((bs ++ (acc ++ inS false ((cr10 : Nat) : Int)))).length) ((Lib.byteCells ((bs ++ (acc ++ inS false ((cr10 : Nat) : Int)))))) :: T) := by
      have h9 := M
      rw [hq9]
      simp only [List.append_assoc] at h9 ⊢
      exact h9
     have hs9 := kf false hc9
     refine hK5 _ _ _ (by omega) ⟨p_ + cq11, false, acc ++ inS false ((cr10 : Nat) : Int), v40, .pointer (some ⟨gw, 0, none⟩), rfl, ⟨.inl rfl, by rw [← hin9, zm hx8 he12, qaj, List.append_assoc], by rw [List.length_append]; omega, by omega⟩, A.keep _ ⟨rfl, rfl, rfl, rfl, rfl, trivial⟩, M⟩
   ·
    refine sdo (v := .bool false) A (qy rfl zj) λa A↦?_
    refine sdm A λa A↦?_
    iterate 2 refine qh A rfl rfl rfl λa A↦?_
    iterate 2 refine sdk (v := .bool false) A λa A↦?_
    refine qa (hK16 _ _ (wp_cond_false (A.ev rfl) ?_))
    refine wsk fun K44 hK44 => wrl ?_
    iterate 2 refine sdm A λa A↦?_
    refine sct A (ef rfl rfl) (qch hpo (toW (X := [.obj g2 (.stringIter s (p_ + cq11))]) M) (QT.it hT) (n := cr10) (vd (xe he12)) hz (by first | omega | (simp only [List.length_append, List.length_cons, List.length_nil]; omega) | (simp only [List.length_append, List.length_cons, List.length_nil, ByteArray.size, List.size_toArray, Array.size]; omega))) ?_
    rintro _ w48 ⟨rfl, v45, hM46⟩
    replace M : Mg w0 w48 (.obj g2 (.stringIter s (p_ + cq11)) :: .obj gw (.cells #[.pointer (some ⟨gw, 0, none⟩), v45, .bool pl] 42) :: .row BY 1 (v45) ((((bs ++ acc) ++ (jk (((cr10 : Nat) : Int))))).length) ((Lib.byteCells (((bs ++ acc) ++ (jk (((cr10 : Nat) : Int))))))) :: T) := (qs (X := [.obj g2 (.stringIter s (p_ + cq11))]) hM46)
    refine ⟨_, rfl, ?_⟩
    intro a A
    refine qa (hK44 _ _ (wrl (sdm A λa A↦?_)))
    refine sdo A (qi rfl) λa A↦?_
    refine sdo (v := .pointer (some ⟨gw, 0, none⟩)) A (qb TwH_fld_42_0 rfl rfl) λa A↦?_
    refine sct A (ef rfl rfl) (zi (.inr rfl) (toW (X := [.obj g2 (.stringIter s (p_ + cq11))]) M) (QT.it hT) (b := 59) (by first | omega | (simp only [List.length_append, List.length_cons, List.length_nil]; omega) | (simp only [List.length_append, List.length_cons, List.length_nil, ByteArray.size, List.size_toArray, Array.size]; omega))) ?_
    rintro _ w52 ⟨rfl, v49, hM50⟩
    replace M : Mg w0 w52 (.obj g2 (.stringIter s (p_ + cq11)) :: .obj gw (.cells #[.pointer (some ⟨gw, 0, none⟩), v49, .bool pl] 42) :: .row BY 1 (v49) (((((bs ++ acc) ++ (jk (((cr10 : Nat) : Int)))) ++ ([59]))).length) ((Lib.byteCells ((((bs ++ acc) ++ (jk (((cr10 : Nat) : Int)))) ++ ([59]))))) :: T) := (qs (X := [.obj g2 (.stringIter s (p_ + cq11))]) hM50)
    refine ⟨_, rfl, ?_⟩
    intro a A
    refine qa (hK15 _ _ (wrl (sda A λa A↦?_)))
    refine qa ?_
    have hq9 : inS true ((cr10 : Nat) : Int) = jk ((cr10 : Nat) : Int) ++ [59] := qne (by rw [hb17]; rfl)
    replace M : Mg w0 w52 (.obj g2 (.stringIter s (p_ + cq11)) :: .obj gw (.cells #[.pointer (some ⟨gw, 0, none⟩), v49, .bool pl] 42) :: .row BY 1 (v49) (((bs ++ (acc ++ inS true ((cr10 : Nat) : Int)))).length) ((Lib.byteCells ((bs ++ (acc ++ inS true ((cr10 : Nat) : Int)))))) :: T) := by
     have h9 := M
     rw [hq9]
     simp only [List.append_assoc] at h9 ⊢
     exact h9
    have hs9 := kf true hc9
    refine hK5 _ _ _ (by omega) ⟨p_ + cq11, false, acc ++ inS true ((cr10 : Nat) : Int), v49, .pointer (some ⟨gw, 0, none⟩), rfl, ⟨.inl rfl, by rw [← hin9, zm hx8 he12, qaj, List.append_assoc], by rw [List.length_append]; omega, by omega⟩, A.keep _ ⟨rfl, rfl, rfl, rfl, rfl, trivial⟩, M⟩
 ·
  refine qpb A M rfl rfl 0 rfl hx8 rfl rfl rfl λa A↦?_
  refine sdo A (qp (vs := [.bool false]) rfl rfl) λa A↦?_
  refine qa (hK7 _ _ (wsk fun K53 hK53 => wp_cond_false (A.ev rfl) ?_))
  refine wp_exit (hnorm _ _ (ji (v := .tuple #[]) A rfl .nil rfl ?_))
  have hpe : po = .pointer (some ⟨gw, 0, none⟩) := by
   rcases hpq with h | ⟨h0, h⟩
   ·
    exact h
   ·
    rcases hne with k | k
    ·
     omega
    ·
     rw [h, k]
  rw [hpe] at M
  refine ⟨rfl, vo, ?_⟩
  have hM8 := M.sub (L' := _ :: _ :: T) (.cons _ (.cons_cons _ (.cons_cons _ (.refl _))))
  rw [show inL fi (qn s.data.toList) = acc from (by rw [← hin9, yv hx8, zlg, List.append_nil])]
  simpa only [List.append_assoc, List.append_nil, List.cons_append, List.nil_append] using hM8
theorem zrj {w0 w : World} {gw : Nat} {p v : Value} {pl : Bool} {bs : List UInt8} {T : List Ck} (hp : p = .pointer none ∨ p = .pointer (some ⟨gw, 0, none⟩)) (hM0 : Mg w0 w (.obj gw (.cells #[p, v, .bool pl] 42) :: .row BY 1 v bs.length (Lib.byteCells bs) :: T)) (hT : QT T) {s : ByteArray} (hs : s.size ≤ 2000000) (hz : C.Tz16 w0) (hroom : bs.length + (64 * s.size + 64) ≤ 1000000000) : Calls Tryz.prog 28 #[.pointer (some ⟨gw, 0, none⟩), .string s] w fun e w' => e = .returned (.tuple #[]) ∧ ∃ v', Mg w0 w' (.obj gw (.cells #[.pointer (some ⟨gw, 0, none⟩), v', .bool pl] 42) :: .row BY 1 v' (bs ++ (kw pl s)).length (Lib.byteCells (bs ++ (kw pl s))) :: T) := by
 have M : Mg w0 w (.obj gw (.cells #[p, v, .bool pl] 42) :: .row BY 1 (v) bs.length ((Lib.byteCells bs)) :: T) := hM0
 refine qm (l := [(0, .pointer (some ⟨gw, 0, none⟩)), (1, .string s)]) Tryz.func28 rfl Tryz.ntmps28 rfl rfl ?_
 intro Q hret hnorm hP a A
 refine wp_block (wsk fun K1 hK1 => wrl (sdm A λa A↦?_))
 refine sdo A (qi rfl) λa A↦?_
 refine sdo (v := .pointer (some ⟨gw, 2, none⟩)) A (qb TwH_fld_42_1 rfl rfl) λa A↦?_
 refine sdo A (qk M TwH_is1_4 rfl 0 rfl rfl) λa A↦?_
 refine sdm A λa A↦?_
 rcases pl with _ | _
 ·
  refine sdm A λa A↦?_
  rcases tf (decide (s = ⟨#[43]⟩)) with hb2 | hb2
  ·
   have hb2' := of_decide_eq_true hb2
   refine sdo (v := .bool true) A (qe rfl rfl (fun w => (zl Tryz.underlying9 w).trans (by rw [hb2] <;> rfl))) λa A↦?_
   refine sdk (v := .bool true) A λa A↦?_
   refine sdm A λa A↦?_
   iterate 2 refine qh A rfl rfl rfl λa A↦?_
   refine sdk (v := .bool true) A λa A↦?_
   refine sdm A λa A↦?_
   iterate 2 refine qh A rfl rfl rfl λa A↦?_
   refine sdk (v := .bool true) A λa A↦?_
   refine sda A λa A↦?_
   refine qa (hK1 _ _ (wp_cond_true (A.ev rfl) ?_))
   refine wrl (sdm A λa A↦?_)
   refine sdo A (qi rfl) λa A↦?_
   refine sdo (v := .pointer (some ⟨gw, 0, none⟩)) A (qb TwH_fld_42_0 rfl rfl) λa A↦?_
   refine sdm A λa A↦?_
   refine sct A (ef rfl rfl) (ja hp (toW (X := []) M) (s := s) (by first | omega | (simp only [List.length_append, List.length_cons, List.length_nil]; omega) | (simp only [List.length_append, List.length_cons, List.length_nil, ByteArray.size, List.size_toArray, Array.size]; omega))) ?_
   rintro _ w6 ⟨rfl, v3, hM4⟩
   replace M : Mg w0 w6 (.obj gw (.cells #[.pointer (some ⟨gw, 0, none⟩), v3, .bool false] 42) :: .row BY 1 (v3) (((bs ++ s.data.toList)).length) ((Lib.byteCells ((bs ++ s.data.toList)))) :: T) := (qs (X := []) hM4)
   refine ⟨_, rfl, ?_⟩
   intro a A
   refine qa (hnorm _ _ (ji (v := .tuple #[]) A rfl .nil rfl ?_))
   refine ⟨rfl, v3, ?_⟩
   have hM8 := M.sub (L' := _ :: _ :: T) (.cons_cons _ (.cons_cons _ (.refl _)))
   rw [show kw false s = s.data.toList from qdi (.inr (.inl hb2'))]
   simpa only [List.append_assoc, List.append_nil, List.cons_append, List.nil_append] using hM8
  ·
   have hb2' := of_decide_eq_false hb2
   refine sdo (v := .bool false) A (qe rfl rfl (fun w => (zl Tryz.underlying9 w).trans (by rw [hb2] <;> rfl))) λa A↦?_
   refine sdk (v := .bool false) A λa A↦?_
   iterate 2 refine sdm A λa A↦?_
   rcases tf (decide (s = ⟨#[45]⟩)) with hb7 | hb7
   ·
    have hb7' := of_decide_eq_true hb7
    refine sdo (v := .bool true) A (qe rfl rfl (fun w => (zl Tryz.underlying9 w).trans (by rw [hb7] <;> rfl))) λa A↦?_
    refine sdk (v := .bool true) A λa A↦?_
    refine sdm A λa A↦?_
    iterate 2 refine qh A rfl rfl rfl λa A↦?_
    refine sdk (v := .bool true) A λa A↦?_
    refine sda A λa A↦?_
    refine qa (hK1 _ _ (wp_cond_true (A.ev rfl) ?_))
    refine wrl (sdm A λa A↦?_)
    refine sdo A (qi rfl) λa A↦?_
    refine sdo (v := .pointer (some ⟨gw, 0, none⟩)) A (qb TwH_fld_42_0 rfl rfl) λa A↦?_
    refine sdm A λa A↦?_
    refine sct A (ef rfl rfl) (ja hp (toW (X := []) M) (s := s) (by first | omega | (simp only [List.length_append, List.length_cons, List.length_nil]; omega) | (simp only [List.length_append, List.length_cons, List.length_nil, ByteArray.size, List.size_toArray, Array.size]; omega))) ?_
    rintro _ w11 ⟨rfl, v8, hM9⟩
    replace M : Mg w0 w11 (.obj gw (.cells #[.pointer (some ⟨gw, 0, none⟩), v8, .bool false] 42) :: .row BY 1 (v8) (((bs ++ s.data.toList)).length) ((Lib.byteCells ((bs ++ s.data.toList)))) :: T) := (qs (X := []) hM9)
    refine ⟨_, rfl, ?_⟩
    intro a A
    refine qa (hnorm _ _ (ji (v := .tuple #[]) A rfl .nil rfl ?_))
    refine ⟨rfl, v8, ?_⟩
    have hM8 := M.sub (L' := _ :: _ :: T) (.cons_cons _ (.cons_cons _ (.refl _)))
    rw [show kw false s = s.data.toList from qdi (.inr (.inr (.inl hb7')))]
    simpa only [List.append_assoc, List.append_nil, List.cons_append, List.nil_append] using hM8
   ·
    have hb7' := of_decide_eq_false hb7
    refine sdo (v := .bool false) A (qe rfl rfl (fun w => (zl Tryz.underlying9 w).trans (by rw [hb7] <;> rfl))) λa A↦?_
    refine sdk (v := .bool false) A λa A↦?_
    iterate 2 refine sdm A λa A↦?_
    rcases tf (decide (s = ⟨#[46, 46, 46]⟩)) with hb12 | hb12
    ·
     have hb12' := of_decide_eq_true hb12
     refine sdo (v := .bool true) A (qe rfl rfl (fun w => (zl Tryz.underlying9 w).trans (by rw [hb12] <;> rfl))) λa A↦?_
     refine sdk (v := .bool true) A λa A↦?_
     refine sda A λa A↦?_
     refine qa (hK1 _ _ (wp_cond_true (A.ev rfl) ?_))
     refine wrl (sdm A λa A↦?_)
     refine sdo A (qi rfl) λa A↦?_
     refine sdo (v := .pointer (some ⟨gw, 0, none⟩)) A (qb TwH_fld_42_0 rfl rfl) λa A↦?_
     refine sdm A λa A↦?_
     refine sct A (ef rfl rfl) (ja hp (toW (X := []) M) (s := s) (by first | omega | (simp only [List.length_append, List.length_cons, List.length_nil]; omega) | (simp only [List.length_append, List.length_cons, List.length_nil, ByteArray.size, List.size_toArray, Array.size]; omega))) ?_
     rintro _ w16 ⟨rfl, v13, hM14⟩
     replace M : Mg w0 w16 (.obj gw (.cells #[.pointer (some ⟨gw, 0, none⟩), v13, .bool false] 42) :: .row BY 1 (v13) (((bs ++ s.data.toList)).length) ((Lib.byteCells ((bs ++ s.data.toList)))) :: T) := (qs (X := []) hM14)
     refine ⟨_, rfl, ?_⟩
     intro a A
     refine qa (hnorm _ _ (ji (v := .tuple #[]) A rfl .nil rfl ?_))
     refine ⟨rfl, v13, ?_⟩
     have hM8 := M.sub (L' := _ :: _ :: T) (.cons_cons _ (.cons_cons _ (.refl _)))
     rw [show kw false s = s.data.toList from qdi (.inr (.inr (.inr hb12')))]
     simpa only [List.append_assoc, List.append_nil, List.cons_append, List.nil_append] using hM8
    ·
     have hb12' := of_decide_eq_false hb12
     refine sdo (v := .bool false) A (qe rfl rfl (fun w => (zl Tryz.underlying9 w).trans (by rw [hb12] <;> rfl))) λa A↦?_
     refine sdk (v := .bool false) A λa A↦?_
     refine sda A λa A↦?_
     refine qa (hK1 _ _ (wp_cond_false (A.ev rfl) ?_))
     refine wsk fun K17 hK17 => wrl (sdm A λa A↦?_)
     rcases tf (decide (s = ⟨#[]⟩)) with hb18 | hb18
     ·
      have hb18' := of_decide_eq_true hb18
      refine sdo (v := .bool true) A (qe rfl rfl (fun w => (zl Tryz.underlying9 w).trans (by rw [hb18] <;> rfl))) λa A↦?_
      refine sda A λa A↦?_
      refine qa (hK17 _ _ (wp_cond_true (A.ev rfl) ?_))
      refine wrl (sdm A λa A↦?_)
      refine sdo A (qi rfl) λa A↦?_
      refine sdo (v := .pointer (some ⟨gw, 0, none⟩)) A (qb TwH_fld_42_0 rfl rfl) λa A↦?_
      refine sct A (ef rfl rfl) (ja hp (toW (X := []) M) (s := ⟨#[124, 124]⟩) (by first | omega | (simp only [List.length_append, List.length_cons, List.length_nil]; omega) | (simp only [List.length_append, List.length_cons, List.length_nil, ByteArray.size, List.size_toArray, Array.size]; omega))) ?_
      rintro _ w22 ⟨rfl, v19, hM20⟩
      replace M : Mg w0 w22 (.obj gw (.cells #[.pointer (some ⟨gw, 0, none⟩), v19, .bool false] 42) :: .row BY 1 (v19) (((bs ++ ([124, 124]))).length) ((Lib.byteCells ((bs ++ ([124, 124]))))) :: T) := (qs (X := []) hM20)
      refine ⟨_, rfl, ?_⟩
      intro a A
      refine qa (hnorm _ _ (ji (v := .tuple #[]) A rfl .nil rfl ?_))
      refine ⟨rfl, v19, ?_⟩
      have hM8 := M.sub (L' := _ :: _ :: T) (.cons_cons _ (.cons_cons _ (.refl _)))
      rw [show kw false s = ([124, 124]) from zgg (fun k => by rcases k with k | k | k | k; cases k; exact hb2' k; exact hb7' k; exact hb12' k) hb18']
      simpa only [List.append_assoc, List.append_nil, List.cons_append, List.nil_append] using hM8
     ·
      have hb18' := of_decide_eq_false hb18
      refine sdo (v := .bool false) A (qe rfl rfl (fun w => (zl Tryz.underlying9 w).trans (by rw [hb18] <;> rfl))) λa A↦?_
      refine sda A λa A↦?_
      refine qa (hK17 _ _ (wp_cond_false (A.ev rfl) ?_))
      refine wsk fun K23 hK23 => wrl (sdm A λa A↦?_)
      rcases tf (Lib.hasPrefix s.data.toList [45, 62]) with hb24 | hb24
      ·
       refine gcl A M (ef rfl rfl) (qkc (s := s) (t := ⟨#[45, 62]⟩) hb24) fun w26 hb25 M a A => ?_
       refine sda A λa A↦?_
       refine qa (hK23 _ _ (wp_cond_true (A.ev rfl) ?_))
       refine wsk fun K27 hK27 => wrl (sdm A λa A↦?_)
       refine sdo A (qi rfl) λa A↦?_
       refine sdo (v := .pointer (some ⟨gw, 0, none⟩)) A (qb TwH_fld_42_0 rfl rfl) λa A↦?_
       refine sct A (ef rfl rfl) (ja hp (toW (X := []) M) (s := ⟨#[45, 62]⟩) (by first | omega | (simp only [List.length_append, List.length_cons, List.length_nil]; omega) | (simp only [List.length_append, List.length_cons, List.length_nil, ByteArray.size, List.size_toArray, Array.size]; omega))) ?_
       rintro _ w31 ⟨rfl, v28, hM29⟩
       replace M : Mg w0 w31 (.obj gw (.cells #[.pointer (some ⟨gw, 0, none⟩), v28, .bool false] 42) :: .row BY 1 (v28) (((bs ++ ([45, 62]))).length) ((Lib.byteCells ((bs ++ ([45, 62]))))) :: T) := (qs (X := []) hM29)
       refine ⟨_, rfl, ?_⟩
       intro a A
       refine qa (hK27 _ _ (wrl ?_))
       iterate 2 refine sdm A λa A↦?_
       have hp2 := qxj hb24
       have hee := zoj s 2
       refine sdo (v := .string (s.extract 2 s.size)) A (qjb (p := 2) Tryz.underlying9 rfl rfl hp2) λa A↦?_
       refine sct A (ef rfl rfl) (zie (.inr rfl) (toW (X := []) M) hT (s := s.extract 2 s.size) (fi := false) (.inr rfl) (by omega) hz (by first | omega | (simp only [List.length_append, List.length_cons, List.length_nil]; omega) | (simp only [List.length_append, List.length_cons, List.length_nil, ByteArray.size, List.size_toArray, Array.size]; omega))) ?_
       rintro _ w35 ⟨rfl, v32, hM33⟩
       replace M : Mg w0 w35 (.obj gw (.cells #[.pointer (some ⟨gw, 0, none⟩), v32, .bool false] 42) :: .row BY 1 (v32) ((((bs ++ ([45, 62])) ++ (inL false (qn (s.extract 2 s.size).data.toList)))).length) ((Lib.byteCells (((bs ++ ([45, 62])) ++ (inL false (qn (s.extract 2 s.size).data.toList)))))) :: T) := (qs (X := []) hM33)
       refine ⟨_, rfl, ?_⟩
       intro a A
       refine qa (hnorm _ _ (ji (v := .tuple #[]) A rfl .nil rfl ?_))
       refine ⟨rfl, v32, ?_⟩
       have hM8 := M.sub (L' := _ :: _ :: T) (.cons_cons _ (.cons_cons _ (.refl _)))
       rw [show kw false s = ([45, 62]) ++ (inL false (qn (s.extract 2 s.size).data.toList)) from (by rw [zgh (fun k => by rcases k with k | k | k | k; cases k; exact hb2' k; exact hb7' k; exact hb12' k) hb18' hb24, zcg])]
       simpa only [List.append_assoc, List.append_nil, List.cons_append, List.nil_append] using hM8
      ·
       refine gcl A M (ef rfl rfl) (qkc (s := s) (t := ⟨#[45, 62]⟩) hb24) fun w37 hb36 M a A => ?_
       refine sda A λa A↦?_
       refine qa (hK23 _ _ (wp_cond_false (A.ev rfl) ?_))
       refine wrl ?_
       iterate 2 refine sdm A λa A↦?_
       refine sct A (ef rfl rfl) (zie hp (toW (X := []) M) hT (s := s) (fi := true) (.inl (zlh hb18')) (by omega) hz (by first | omega | (simp only [List.length_append, List.length_cons, List.length_nil]; omega) | (simp only [List.length_append, List.length_cons, List.length_nil, ByteArray.size, List.size_toArray, Array.size]; omega))) ?_
       rintro _ w41 ⟨rfl, v38, hM39⟩
       replace M : Mg w0 w41 (.obj gw (.cells #[.pointer (some ⟨gw, 0, none⟩), v38, .bool false] 42) :: .row BY 1 (v38) (((bs ++ (inL true (qn s.data.toList)))).length) ((Lib.byteCells ((bs ++ (inL true (qn s.data.toList)))))) :: T) := (qs (X := []) hM39)
       refine ⟨_, rfl, ?_⟩
       intro a A
       refine qa (hnorm _ _ (ji (v := .tuple #[]) A rfl .nil rfl ?_))
       refine ⟨rfl, v38, ?_⟩
       have hM8 := M.sub (L' := _ :: _ :: T) (.cons_cons _ (.cons_cons _ (.refl _)))
       rw [show kw false s = (inL true (qn s.data.toList)) from (by rw [qxi (fun k => by rcases k with k | k | k | k; cases k; exact hb2' k; exact hb7' k; exact hb12' k) hb18' hb24])]
       simpa only [List.append_assoc, List.append_nil, List.cons_append, List.nil_append] using hM8
 ·
  iterate 2 refine qh A rfl rfl rfl λa A↦?_
  refine sdk (v := .bool true) A λa A↦?_
  refine sdm A λa A↦?_
  iterate 2 refine qh A rfl rfl rfl λa A↦?_
  refine sdk (v := .bool true) A λa A↦?_
  refine sdm A λa A↦?_
  iterate 2 refine qh A rfl rfl rfl λa A↦?_
  refine sdk (v := .bool true) A λa A↦?_
  refine sda A λa A↦?_
  refine qa (hK1 _ _ (wp_cond_true (A.ev rfl) ?_))
  refine wrl (sdm A λa A↦?_)
  refine sdo A (qi rfl) λa A↦?_
  refine sdo (v := .pointer (some ⟨gw, 0, none⟩)) A (qb TwH_fld_42_0 rfl rfl) λa A↦?_
  refine sdm A λa A↦?_
  refine sct A (ef rfl rfl) (ja hp (toW (X := []) M) (s := s) (by first | omega | (simp only [List.length_append, List.length_cons, List.length_nil]; omega) | (simp only [List.length_append, List.length_cons, List.length_nil, ByteArray.size, List.size_toArray, Array.size]; omega))) ?_
  rintro _ w45 ⟨rfl, v42, hM43⟩
  replace M : Mg w0 w45 (.obj gw (.cells #[.pointer (some ⟨gw, 0, none⟩), v42, .bool true] 42) :: .row BY 1 (v42) (((bs ++ s.data.toList)).length) ((Lib.byteCells ((bs ++ s.data.toList)))) :: T) := (qs (X := []) hM43)
  refine ⟨_, rfl, ?_⟩
  intro a A
  refine qa (hnorm _ _ (ji (v := .tuple #[]) A rfl .nil rfl ?_))
  refine ⟨rfl, v42, ?_⟩
  have hM8 := M.sub (L' := _ :: _ :: T) (.cons_cons _ (.cons_cons _ (.refl _)))
  rw [show kw true s = s.data.toList from qdi (.inl rfl)]
  simpa only [List.append_assoc, List.append_nil, List.cons_append, List.nil_append] using hM8
theorem zpi {w0 w : World} {gw : Nat} {p v : Value} {pl : Bool} {bs : List UInt8} {T : List Ck} (hp : p = .pointer none ∨ p = .pointer (some ⟨gw, 0, none⟩)) (hM0 : Mg w0 w (.obj gw (.cells #[p, v, .bool pl] 42) :: .row BY 1 v bs.length (Lib.byteCells bs) :: T)) (hT : QT T) {so : Option Addr} {ca : Nat} {l : List UInt8} (hb : Rb w0 so l) (hl : l.length ≤ 2000000) (htp : C.Tp10 w0) (hroom : bs.length + (64 * l.length + 64) ≤ 1000000000) : Calls Tryz.prog 29 #[.pointer (some ⟨gw, 0, none⟩), .slice so l.length ca] w fun e w' => e = .returned (.tuple #[]) ∧ ∃ v', Mg w0 w' (.obj gw (.cells #[.pointer (some ⟨gw, 0, none⟩), v', .bool pl] 42) :: .row BY 1 v' (bs ++ (qra l)).length (Lib.byteCells (bs ++ (qra l))) :: T) := by
 have M : Mg w0 w (.obj gw (.cells #[p, v, .bool pl] 42) :: .row BY 1 (v) bs.length ((Lib.byteCells bs)) :: T) := hM0
 refine qm (l := [(0, .pointer (some ⟨gw, 0, none⟩)), (1, .slice so l.length ca)]) Tryz.func29 rfl Tryz.ntmps29 rfl rfl ?_
 intro Q hret hnorm hP a A
 refine wsk fun K1 hK1 => wrl (sdm A λa A↦?_)
 refine sdo A (qi rfl) λa A↦?_
 refine sdo (v := .pointer (some ⟨gw, 0, none⟩)) A (qb TwH_fld_42_0 rfl rfl) λa A↦?_
 refine sct A (ef rfl rfl) (ja hp (toW (X := []) M) (s := ⟨#[35, 118, 117, 56, 40]⟩) (by first | omega | (simp only [List.length_append, List.length_cons, List.length_nil]; omega) | (simp only [List.length_append, List.length_cons, List.length_nil, ByteArray.size, List.size_toArray, Array.size]; omega))) ?_
 rintro _ w5 ⟨rfl, v2, hM3⟩
 replace M : Mg w0 w5 (.obj gw (.cells #[.pointer (some ⟨gw, 0, none⟩), v2, .bool pl] 42) :: .row BY 1 (v2) (((bs ++ ([35, 118, 117, 56, 40]))).length) ((Lib.byteCells ((bs ++ ([35, 118, 117, 56, 40]))))) :: T) := (qs (X := []) hM3)
 refine ⟨_, rfl, ?_⟩
 intro a A
 refine qa (hK1 _ _ (wsk fun K6 hK6 => wsk fun K7 hK7 => wrl (sdm A λa A↦?_)))
 refine sdo A (qx Tryz.underlying27 rfl) λa A↦?_
 refine sdm A λa A↦?_
 refine qa (hK7 _ _ (wp_block ?_))
 replace M : Mg w0 w5 (.obj gw (.cells #[.pointer (some ⟨gw, 0, none⟩), v2, .bool pl] 42) :: .row BY 1 (v2) ((((bs ++ [35, 118, 117, 56, 40]) ++ [])).length) ((Lib.byteCells (((bs ++ [35, 118, 117, 56, 40]) ++ [])))) :: T) := by
  have h9 := M
  simp only [List.append_assoc, List.append_nil, List.nil_append] at h9 ⊢
  exact h9
 refine zt (fun m_ a w1 => ∃ (i : Nat) (acc : List UInt8) (vo : Value), m_ = 1 + (l.length - i) ∧ (i ≤ l.length ∧ acc ++ qib (decide (i = 0)) (l.drop i) = qib true l ∧ acc.length ≤ 4 * i) ∧ Sl a 32 [(0, .pointer (some ⟨gw, 0, none⟩)), (1, .slice so l.length ca), (6, .pointer (some ⟨gw, 0, none⟩)), (7, .pointer (some ⟨gw, 0, none⟩)), (8, .pointer (some ⟨gw, 0, none⟩)), (9, .tuple #[.int .i64 ((((⟨#[35, 118, 117, 56, 40]⟩ : ByteArray).size : Nat) : Int)), .nilIface]), (10, .slice so l.length ca), (11, .int .i64 (((l.length : Nat) : Int))), (12, .int .i64 (((i : Nat) : Int)))] ∧ Mg w0 w1 (.obj gw (.cells #[.pointer (some ⟨gw, 0, none⟩), vo, .bool pl] 42) :: .row BY 1 (vo) (((bs ++ [35, 118, 117, 56, 40]) ++ acc).length) ((Lib.byteCells ((bs ++ [35, 118, 117, 56, 40]) ++ acc))) :: T)) _ ⟨0, [], v2, rfl, ⟨Nat.zero_le _, rfl, Nat.zero_le _⟩, A.keep _ ⟨rfl, rfl, rfl, rfl, rfl, rfl, rfl, rfl, rfl, trivial⟩, M⟩ ?_
 clear M A
 rintro m_ a w8 ⟨i, acc, vo, rfl, hinv10, A, M⟩ K9 hK9
 obtain ⟨hi0, hin9, ha9⟩ := hinv10
 refine wsk fun K11 hK11 => wrl ?_
 rcases tf (decide (((i : Nat) : Int) < ((l.length : Nat) : Int))) with hb12 | hb12
 ·
  have hb12' := of_decide_eq_true hb12
  refine sdc A zg hb12 λa A↦?_
  refine qa (hK11 _ _ (wsk fun K13 hK13 => wp_cond_true (A.ev rfl) ?_))
  refine wp_skip (hK13 _ _ (wsk fun K14 hK14 => wp_block (wsk fun K15 hK15 => wrl (sdm A λa A↦?_))))
  obtain ⟨bx, ox, hx1, hx2, hx3⟩ := qfg (i := i) hb (by omega)
  have hX8 : (l.getD i 0).toNat < 256 := UInt8.toNat_lt _
  have hd3 := qfd ⟨(l.getD i 0).toNat, hX8⟩
  simp only at hd3
  refine sdo (v := .pointer (some ⟨bx, ox + i, none⟩)) A (jf (k := i) Tryz.underlying27 (by kernel_rfl) rfl rfl rfl hx1 (by omega)) λa A↦?_
  refine sdo A (qej M hx2 (hx3 i (by omega)) TwH_is1_5 rfl) λa A↦?_
  iterate 2 refine sda A λa A↦?_
  refine qa (hK15 _ _ (wsk fun K16 hK16 => wrl ?_))
  iterate 2 refine sdm A λa A↦?_
  rcases tf (decide (i = 0)) with hb17 | hb17
  ·
   have hb17' := of_decide_eq_true hb17
   refine sct A (ef rfl rfl) ((show Calls Tryz.prog 60 #[.pointer (some ⟨gw, 0, none⟩), .int .i64 ((i : Nat) : Int)] _ _ from by rw [hb17']; exact zic (toW (X := []) M))) ?_
   rintro _ w19 ⟨rfl, hM18⟩
   replace M : Mg w0 w19 (.obj gw (.cells #[.pointer (some ⟨gw, 0, none⟩), vo, .bool pl] 42) :: .row BY 1 (vo) (((bs ++ [35, 118, 117, 56, 40]) ++ acc).length) ((Lib.byteCells ((bs ++ [35, 118, 117, 56, 40]) ++ acc))) :: T) := (qs (X := []) hM18)
   refine ⟨_, rfl, ?_⟩
   intro a A
   refine qa (hK16 _ _ (kq (S := fun w1 => Mg w0 w1 ([])) (by kernel_rfl) ?_))
   replace M := M.drew
   refine za A 0 rfl rfl rfl rfl hP (M.sub (.cons _ (.cons _ (List.nil_sublist _)))) (fun w1 M => jl rfl) λa A↦?_
   refine za A 1 rfl rfl rfl rfl hP (M.sub (.cons _ (.cons _ (List.nil_sublist _)))) (fun w1 M => qi rfl) λa A↦?_
   refine za (v := .pointer (some ⟨gw, 0, none⟩)) A 2 rfl rfl rfl rfl hP (M.sub (.cons _ (.cons _ (List.nil_sublist _)))) (fun w1 M => qb TwH_fld_42_0 rfl rfl) λa A↦?_
   refine za A 3 rfl rfl rfl rfl hP (M.sub (.cons _ (.cons _ (List.nil_sublist _)))) (fun w1 M => jl rfl) λa A↦?_
   refine za (v := .int .i64 ((((l.getD i 0).toNat : Nat) : Int))) A 4 rfl rfl rfl rfl hP (M.sub (.cons _ (.cons _ (List.nil_sublist _)))) (fun w1 M => qt rfl (ar_conv Tryz.underlying5 Tryz.underlying3 (in_i64 (by omega) (by omega)))) λa A↦?_
   refine jp (by kernel_rfl) (xf A 5 rfl rfl rfl rfl (zp rfl rfl (fun w => by kernel_rfl)) (C.itoa_any (htp.below M.bel) hX8) ?_)
   rintro _ w21 ⟨rfl, hb20⟩
   replace M := M.call hb20
   refine ⟨_, rfl, (M.sub (.cons _ (.cons _ (List.nil_sublist _)))), ?_⟩
   intro a A
   refine jp (by kernel_rfl) (xf A 6 rfl rfl rfl rfl (zp rfl rfl (fun w => by kernel_rfl)) (ja (.inr rfl) (toW (X := []) M) (s := ⟨(C.decD (l.getD i 0).toNat).toArray⟩) (by first | omega | (simp only [List.length_append, List.length_cons, List.length_nil]; omega) | (simp only [List.length_append, List.length_cons, List.length_nil, ByteArray.size, List.size_toArray, Array.size]; omega))) ?_)
   rintro _ w25 ⟨rfl, v22, hM23⟩
   replace M : Mg w0 w25 (.obj gw (.cells #[.pointer (some ⟨gw, 0, none⟩), v22, .bool pl] 42) :: .row BY 1 (v22) (((((bs ++ [35, 118, 117, 56, 40]) ++ acc) ++ (C.decD (l.getD i 0).toNat))).length) ((Lib.byteCells ((((bs ++ [35, 118, 117, 56, 40]) ++ acc) ++ (C.decD (l.getD i 0).toNat))))) :: T) := (qs (X := []) hM23)
   refine ⟨_, rfl, (M.sub (.cons _ (.cons _ (List.nil_sublist _)))), ?_⟩
   intro a A
   refine xw (by kernel_rfl) ?_
   refine hK14 _ _ (wrl (sdo (v := .int .i64 (((i + 1 : Nat) : Int))) A (qe rfl rfl (fun w => (zx (jw (by omega) (by omega)) w).trans (by rw [show (((i : Nat) : Int) + 1 : Int) = ((i + 1 : Nat) : Int) from by omega]))) λa A↦?_))
   refine sdm A λa A↦?_
   refine qa ?_
   replace M : Mg w0 w25 (.obj gw (.cells #[.pointer (some ⟨gw, 0, none⟩), v22, .bool pl] 42) :: .row BY 1 (v22) ((((bs ++ [35, 118, 117, 56, 40]) ++ (acc ++ ([] ++ C.decD (l.getD i 0).toNat)))).length) ((Lib.byteCells (((bs ++ [35, 118, 117, 56, 40]) ++ (acc ++ ([] ++ C.decD (l.getD i 0).toNat)))))) :: T) := by
    have h9 := M
    simp only [List.append_assoc, List.append_nil, List.nil_append] at h9 ⊢
    exact h9
   refine hK9 _ _ _ (by omega) ⟨i + 1, acc ++ ([] ++ C.decD (l.getD i 0).toNat), v22, rfl, ⟨by omega, by rw [← hin9, show decide (i + 1 = 0) = false from decide_eq_false (by omega), qih (f := decide (i = 0)) (i := i) (by omega), hb17]; rw [if_pos rfl]; simp only [List.append_assoc], by rw [List.length_append, List.length_append]; simp only [List.length_cons, List.length_nil]; omega⟩, A.keep _ ⟨rfl, rfl, rfl, rfl, rfl, rfl, rfl, rfl, rfl, trivial⟩, M⟩
  ·
   have hb17' := of_decide_eq_false hb17
   refine sct A (ef rfl rfl) (zid (.inr rfl) (toW (X := []) M) hT (i := ((i : Nat) : Int)) (by omega) (by first | omega | (simp only [List.length_append, List.length_cons, List.length_nil]; omega) | (simp only [List.length_append, List.length_cons, List.length_nil, ByteArray.size, List.size_toArray, Array.size]; omega))) ?_
   rintro _ w29 ⟨rfl, v26, hM27⟩
   replace M : Mg w0 w29 (.obj gw (.cells #[.pointer (some ⟨gw, 0, none⟩), v26, .bool pl] 42) :: .row BY 1 (v26) (((((bs ++ [35, 118, 117, 56, 40]) ++ acc) ++ ([32]))).length) ((Lib.byteCells ((((bs ++ [35, 118, 117, 56, 40]) ++ acc) ++ ([32]))))) :: T) := (qs (X := []) hM27)
   refine ⟨_, rfl, ?_⟩
   intro a A
   refine qa (hK16 _ _ (kq (S := fun w1 => Mg w0 w1 ([])) (by kernel_rfl) ?_))
   replace M := M.drew
   refine za A 0 rfl rfl rfl rfl hP (M.sub (.cons _ (.cons _ (List.nil_sublist _)))) (fun w1 M => jl rfl) λa A↦?_
   refine za A 1 rfl rfl rfl rfl hP (M.sub (.cons _ (.cons _ (List.nil_sublist _)))) (fun w1 M => qi rfl) λa A↦?_
   refine za (v := .pointer (some ⟨gw, 0, none⟩)) A 2 rfl rfl rfl rfl hP (M.sub (.cons _ (.cons _ (List.nil_sublist _)))) (fun w1 M => qb TwH_fld_42_0 rfl rfl) λa A↦?_
   refine za A 3 rfl rfl rfl rfl hP (M.sub (.cons _ (.cons _ (List.nil_sublist _)))) (fun w1 M => jl rfl) λa A↦?_
   refine za (v := .int .i64 ((((l.getD i 0).toNat : Nat) : Int))) A 4 rfl rfl rfl rfl hP (M.sub (.cons _ (.cons _ (List.nil_sublist _)))) (fun w1 M => qt rfl (ar_conv Tryz.underlying5 Tryz.underlying3 (in_i64 (by omega) (by omega)))) λa A↦?_
   refine jp (by kernel_rfl) (xf A 5 rfl rfl rfl rfl (zp rfl rfl (fun w => by kernel_rfl)) (C.itoa_any (htp.below M.bel) hX8) ?_)
   rintro _ w31 ⟨rfl, hb30⟩
   replace M := M.call hb30
   refine ⟨_, rfl, (M.sub (.cons _ (.cons _ (List.nil_sublist _)))), ?_⟩
   intro a A
   refine jp (by kernel_rfl) (xf A 6 rfl rfl rfl rfl (zp rfl rfl (fun w => by kernel_rfl)) (ja (.inr rfl) (toW (X := []) M) (s := ⟨(C.decD (l.getD i 0).toNat).toArray⟩) (by first | omega | (simp only [List.length_append, List.length_cons, List.length_nil]; omega) | (simp only [List.length_append, List.length_cons, List.length_nil, ByteArray.size, List.size_toArray, Array.size]; omega))) ?_)
   rintro _ w35 ⟨rfl, v32, hM33⟩
   replace M : Mg w0 w35 (.obj gw (.cells #[.pointer (some ⟨gw, 0, none⟩), v32, .bool pl] 42) :: .row BY 1 (v32) ((((((bs ++ [35, 118, 117, 56, 40]) ++ acc) ++ ([32])) ++ (C.decD (l.getD i 0).toNat))).length) ((Lib.byteCells (((((bs ++ [35, 118, 117, 56, 40]) ++ acc) ++ ([32])) ++ (C.decD (l.getD i 0).toNat))))) :: T) := (qs (X := []) hM33)
   refine ⟨_, rfl, (M.sub (.cons _ (.cons _ (List.nil_sublist _)))), ?_⟩
   intro a A
   refine xw (by kernel_rfl) ?_
   refine hK14 _ _ (wrl (sdo (v := .int .i64 (((i + 1 : Nat) : Int))) A (qe rfl rfl (fun w => (zx (jw (by omega) (by omega)) w).trans (by rw [show (((i : Nat) : Int) + 1 : Int) = ((i + 1 : Nat) : Int) from by omega]))) λa A↦?_))
   refine sdm A λa A↦?_
   refine qa ?_
   replace M : Mg w0 w35 (.obj gw (.cells #[.pointer (some ⟨gw, 0, none⟩), v32, .bool pl] 42) :: .row BY 1 (v32) ((((bs ++ [35, 118, 117, 56, 40]) ++ (acc ++ ([32] ++ C.decD (l.getD i 0).toNat)))).length) ((Lib.byteCells (((bs ++ [35, 118, 117, 56, 40]) ++ (acc ++ ([32] ++ C.decD (l.getD i 0).toNat)))))) :: T) := by
    have h9 := M
    simp only [List.append_assoc, List.append_nil, List.nil_append] at h9 ⊢
    exact h9
   refine hK9 _ _ _ (by omega) ⟨i + 1, acc ++ ([32] ++ C.decD (l.getD i 0).toNat), v32, rfl, ⟨by omega, by rw [← hin9, show decide (i + 1 = 0) = false from decide_eq_false (by omega), qih (f := decide (i = 0)) (i := i) (by omega), hb17, if_neg (show ¬ false = true by decide)]; simp only [List.append_assoc], by rw [List.length_append, List.length_append]; simp only [List.length_cons, List.length_nil]; omega⟩, A.keep _ ⟨rfl, rfl, rfl, rfl, rfl, rfl, rfl, rfl, rfl, trivial⟩, M⟩
 ·
  have hb12' := of_decide_eq_false hb12
  refine sdc A zg hb12 λa A↦?_
  refine qa (hK11 _ _ (wsk fun K36 hK36 => wp_cond_false (A.ev rfl) ?_))
  refine wp_exit (hK6 _ _ (wrl (sdm A λa A↦?_)))
  refine sdo A (qi rfl) λa A↦?_
  refine sdo (v := .pointer (some ⟨gw, 0, none⟩)) A (qb TwH_fld_42_0 rfl rfl) λa A↦?_
  refine sct A (ef rfl rfl) (zi (.inr rfl) (toW (X := []) M) hT (b := 41) (by first | omega | (simp only [List.length_append, List.length_cons, List.length_nil]; omega) | (simp only [List.length_append, List.length_cons, List.length_nil, ByteArray.size, List.size_toArray, Array.size]; omega))) ?_
  rintro _ w40 ⟨rfl, v37, hM38⟩
  replace M : Mg w0 w40 (.obj gw (.cells #[.pointer (some ⟨gw, 0, none⟩), v37, .bool pl] 42) :: .row BY 1 (v37) (((((bs ++ [35, 118, 117, 56, 40]) ++ acc) ++ ([41]))).length) ((Lib.byteCells ((((bs ++ [35, 118, 117, 56, 40]) ++ acc) ++ ([41]))))) :: T) := (qs (X := []) hM38)
  refine ⟨_, rfl, ?_⟩
  intro a A
  refine qa (hnorm _ _ (ji (v := .tuple #[]) A rfl .nil rfl ?_))
  refine ⟨rfl, v37, ?_⟩
  have hM8 := M.sub (L' := _ :: _ :: T) (.cons_cons _ (.cons_cons _ (.refl _)))
  rw [show qra l = ([35, 118, 117, 56, 40]) ++ (acc ++ ([41])) from (by unfold qra; rw [← hin9, quc (by omega), List.append_nil, List.append_assoc])]
  simpa only [List.append_assoc, List.append_nil, List.cons_append, List.nil_append] using hM8
end Go.Proofs.YtabpjchfkbhfpaaGreatDoor.G
namespace Go.Proofs.YtabpjchfkbhfpaaGreatDoor
set_option linter.unusedVariables false

section
variable {H : Type}
theorem qui (d : DataW H) : 0 < Rows.uptoBulk d := by
  unfold Rows.uptoBulk
  split <;> omega
theorem quj : ∀ l : List (DataW H), l.length ≤ Rows.uptoBulkAll l
  | [] => by simp
  | d :: l => by
    have h1 := qui d
    have h2 := quj l
    simp only [Rows.uptoBulkAll, List.length_cons]
    omega
theorem qva (xs ys : List (DataW H)) : xs.length ≤ Rows.uptoBulk (.slice xs ys) := by
  have := quj xs
  simp only [Rows.uptoBulk]
  omega
theorem zaj {d : DataW H} : ∀ {l : List (DataW H)}, d ∈ l → Rows.uptoBulk d ≤ Rows.uptoBulkAll l
  | c :: l, h => by
    simp only [Rows.uptoBulkAll]
    rcases List.mem_cons.1 h with rfl | h
    · omega
    · have := zaj h
      omega
theorem zmj {l : List (DataW H)} (hk : Rows.uptoSmall H l = true) {j : Nat} {d : DataW H} (hd : l[j]? = some d) : Rows.uptoBulk d ≤ 1048576 :=
  Nat.le_trans (zaj (List.mem_of_getElem? hd)) (of_decide_eq_true hk)
end
end Go.Proofs.YtabpjchfkbhfpaaGreatDoor
namespace Go.Proofs.YtabpjchfkbhfpaaGreatDoor.G
open Go.ChangeShapes Go.WideShapes Go.ChangeAt Go.RowKit Go.Joins Go.Deep
set_option linter.unusedVariables false
set_option linter.unusedSimpArgs false
set_option maxRecDepth 100000

section
variable {H : Type} {enc : TypeId × Value → H} {W : World}
end
theorem zdc {w : World} {x : Addr} {len cap : Nat} {zs : List Int} (hl : len ≤ cap) (hz : zs.length = cap)
    (hc : ∀ i, i < zs.length → w.cell? (x.add i) = some (.int .u8 (zs.getD i 0))) (hw : ∀ n ∈ zs, (Lit.int .u8 n).wf = true) :
    ∃ l : List UInt8, l.length = len ∧ Rb w (some x) l := by
  have hbd : ∀ n ∈ zs, 0 ≤ n ∧ n < 256 := by
    intro n hn
    have := bounds_u8 (hw n hn)
    omega
  refine ⟨(zs.take len).map b8, by rw [List.length_map, List.length_take]; omega, ⟨fun hne => ?_⟩⟩
  have hlen : ((zs.take len).map b8).length = len := by rw [List.length_map, List.length_take]; omega
  have h0 : 0 < len := by
    apply Classical.byContradiction
    intro h
    have : len = 0 := by omega
    subst this
    simp at hne
  obtain ⟨b, off, spot⟩ := x
  have hspot : spot = none := by
    have := hc 0 (by omega)
    simp only [World.cell?, Addr.add] at this
    split at this
    · cases spot with
      | none => rfl
      | some s => simp at this
    · cases this
  subst hspot
  have hcj : ∀ j, j < len → w.cell? ⟨b, off + j, none⟩ = some (.int .u8 (((((zs.take len).map b8).getD j 0).toNat : Nat) : Int)) := by
    intro j hj
    have h1 := hc j (by omega)
    rw [Addr.add_lit] at h1
    rw [h1]
    have hjz : j < zs.length := by omega
    have h2 := hbd zs[j] (List.getElem_mem hjz)
    have e1 : zs.getD j 0 = zs[j] := by simp [hjz]
    have e2 : ((zs.take len).map b8).getD j 0 = b8 zs[j] := by simp [List.getD_eq_getElem?_getD, hj, hjz]
    rw [e1, e2, zoe h2.1 h2.2]
  refine ⟨b, off, rfl, ?_, fun j hj => hcj j (by omega)⟩
  have := hcj 0 h0
  apply Classical.byContradiction
  intro h
  simp [World.cell?, Array.getElem?_eq_none (Nat.le_of_not_lt h)] at this
section
variable {H : Type} {enc : TypeId × Value → H} {W : World}
end
theorem Rb.take {w : World} {so : Option Addr} {l : List UInt8} (h : Rb w so l) (n : Nat) : Rb w so (l.take n) := by
  refine ⟨fun hne => ?_⟩
  obtain ⟨b, off, h1, h2, h3⟩ := h.pos (fun k => hne (by rw [k]; simp))
  refine ⟨b, off, h1, h2, fun j hj => ?_⟩
  rw [List.length_take] at hj
  rw [h3 j (by omega), List.getD_eq_getElem?_getD, List.getD_eq_getElem?_getD, List.getElem?_take_of_lt (by omega)]
section
variable {P : Program} {w : World} {l : List (Nat × Value)} {dst : Option Tmp} {ty : TypeId} {pos : String} {after : Array Edge} {guard : Option (Nat × Bool)}
end
def Nu.cells (y : Nu) : List Value := [.bool y.q.b1, .slice y.o1 y.q.t1.length y.c1, .slice y.o2 y.q.q1.length y.c2, .bool y.q.b2, .slice y.o3 y.q.t2.length y.c3, .slice y.o4 y.q.q2.length y.c4]
theorem zif {w : World} {b o : Nat} {v : Value} (h : w.cell? ⟨b, o, none⟩ = some v) : b < w.heap.size := by
  apply Classical.byContradiction
  intro k
  simp [World.cell?, Array.getElem?_eq_none (Nat.le_of_not_lt k)] at h
section
variable {H : Type} {enc : TypeId × Value → H} {W : World}
theorem qki (l : List (DataW H)) : Rows.uptoBulk (.agg l) = Rows.uptoBulkAll l + 1 := by simp only [Rows.uptoBulk]
theorem qvb {fuel : Nat} {v : Value} {x : DataW H × List MemPlace} (h : DataW.trod enc Tryz.prog W 0 (fun _ => true) true fuel 27 [v] = some x) : ∃ so cap l, v = .slice so (l : List UInt8).length cap ∧ Rb W so l ∧ l.length ≤ cap ∧ cap ≤ 9223372036854775807 ∧ l.length ≤ Rows.uptoBulk x.1 := by
  rcases open_ints Tryz.underlying27 Tryz.underlying5 (by kernel_rfl) h with ⟨hcs, _⟩ | ⟨x, l, c, zs, hcs, _, hl, hm, hz, hx, hcell, hwz⟩
  · simp only [List.cons.injEq, and_true] at hcs
    subst hcs
    exact ⟨none, 0, [], rfl, ⟨fun k => absurd rfl k⟩, Nat.le_refl _, by decide, Nat.zero_le _⟩
  · simp only [List.cons.injEq, and_true] at hcs
    subst hcs
    obtain ⟨us, e, ha⟩ := zdc hl (by simpa using hz) hcell hwz
    subst e
    subst hx
    refine ⟨_, _, us, rfl, ha, hl, hm, ?_⟩
    simp only [if_true] at hz
    refine Nat.le_trans ?_ (qva _ _)
    simp only [lits, List.length_map, List.length_take, List.length_drop]
    omega
theorem qhi {fuel : Nat} {v : Value} {x : DataW H × List MemPlace} (h : DataW.trod enc Tryz.prog W 0 (fun _ => true) true fuel 22 [v] = some x) : ∃ ao c l, v = .slice ao (l : List Nat).length c ∧ Arg W ao c l ∧ l.length ≤ Rows.uptoBulk x.1 := by
  rcases open_ints Tryz.underlying22 Tryz.underlying65 (by kernel_rfl) h with ⟨hcs, _⟩ | ⟨x, l, c, zs, hcs, _, hl, hm, hz, hx, hcell, hwz⟩
  · cases hcs
    exact ⟨none, 0, [], rfl, arg_nil W, Nat.zero_le _⟩
  · cases hcs
    obtain ⟨us, e, ha⟩ := arg_row hl hm (by simpa using hz) hcell hwz
    subst e
    subst hx
    refine ⟨_, _, us, rfl, ha, ?_⟩
    simp only [if_true] at hz
    refine Nat.le_trans ?_ (qva _ _)
    simp only [lits, List.length_map, List.length_take, List.length_drop]
    omega
theorem qnh {fuel : Nat} {v0 v1 v2 : Value} {x : DataW H × List MemPlace} (h : DataW.trod enc Tryz.prog W 0 (fun _ => true) true fuel 24 [v0, v1, v2] = some x) : ∃ b o1 c1 l1 o2 c2 l2, v0 = .bool b ∧ v1 = .slice o1 (l1 : List Nat).length c1 ∧ v2 = .slice o2 (l2 : List Nat).length c2 ∧ Arg W o1 c1 l1 ∧ Arg W o2 c2 l2 ∧ l1.length + l2.length ≤ Rows.uptoBulk x.1 := by
  obtain ⟨y0, y1, y2, n, hx, _, h0, h1, h2⟩ := trod_struct3 Tryz.underlying24 h
  have e0 : Tryz.prog.cellsOf 4 = 1 := by kernel_rfl
  have e1 : Tryz.prog.cellsOf 22 = 1 := by kernel_rfl
  simp only [e0, e1, List.drop_zero, List.take_succ_cons, List.take_zero, List.drop_succ_cons] at h0 h1 h2
  obtain ⟨b, rfl⟩ := trod_bool h0
  obtain ⟨o1, c1, l1, rfl, a1, k1⟩ := qhi h1
  obtain ⟨o2, c2, l2, rfl, a2, k2⟩ := qhi h2
  refine ⟨b, o1, c1, l1, o2, c2, l2, rfl, rfl, rfl, a1, a2, ?_⟩
  rw [hx, qki]
  simp only [Rows.uptoBulkAll]
  omega
theorem zdd {fuel : Nat} {cs : List Value} {x : DataW H × List MemPlace} (hl : cs.length = 6) (h : DataW.trod enc Tryz.prog W 0 (fun _ => true) true fuel 26 cs = some x) :
    ∃ y : Nu, cs = y.cells ∧ y.nm W ∧ LenQ y.q ∧ y.q.t1.length + y.q.q1.length + (y.q.t2.length + y.q.q2.length) ≤ Rows.uptoBulk x.1 := by
  match cs, hl with
  | [v0, v1, v2, v3, v4, v5], _ =>
    obtain ⟨y0, y1, n, hx, _, h0, h1⟩ := trod_struct2 Tryz.underlying26 h
    have e : Tryz.prog.cellsOf 24 = 3 := by kernel_rfl
    simp only [e, List.drop_zero, List.take_succ_cons, List.take_zero, List.drop_succ_cons] at h0 h1
    obtain ⟨b1, o1, c1, l1, o2, c2, l2, rfl, rfl, rfl, a1, a2, k1⟩ := qnh h0
    obtain ⟨b2, o3, c3, l3, o4, c4, l4, rfl, rfl, rfl, a3, a4, k2⟩ := qnh h1
    refine ⟨⟨⟨b1, l1, l2, b2, l3, l4⟩, o1, c1, o2, c2, o3, c3, o4, c4⟩, rfl, ⟨⟨a1.rd, a1.nil, a1.caps⟩, ⟨a2.rd, a2.nil, a2.caps⟩, ⟨a3.rd, a3.nil, a3.caps⟩, ⟨a4.rd, a4.nil, a4.caps⟩⟩, ⟨a1.len, a2.len, a3.len, a4.len⟩, ?_⟩
    rw [hx, qki]
    simp only [Rows.uptoBulkAll]
    omega
/-- One datum, as it lies in a row of cells; and a list of them. -/
def OpenD (H : Type) (enc : TypeId × Value → H) (W : World) (fuel : Nat) : Prop := ∀ (cs : List Value) (x : DataW H × List MemPlace), DataW.trod enc Tryz.prog W 0 (fun _ => true) true fuel 30 cs = some x → ∃ t : Dt, cs = t.cells ∧ t.rd W ∧ t.tr.bulk ≤ Rows.uptoBulk x.1
theorem qyi {fuel : Nat} {v : Value} {x : DataW H × List MemPlace} (ih : ∀ n, n < fuel → OpenD H enc W n) (h : DataW.trod enc Tryz.prog W 0 (fun _ => true) true fuel 28 [v] = some x) :
    ∃ lo lc ts, v = .slice lo (ts : List Dt).length lc ∧ ts.length ≤ lc ∧ lc ≤ 9223372036854775807 ∧ Rt W lo ts ∧ (∀ t ∈ ts, t.rd W) ∧ Tr.bulks (ts.map Dt.tr) ≤ Rows.uptoBulk x.1 := by
  rcases DataW.trod_slice Tryz.underlying28 h with ⟨hcs, _⟩ | ⟨a, len, cap, elems, rest, n, hf, hcs, hx, _, hl, hm, hlen, hel, _, _⟩
  · simp only [List.cons.injEq, and_true] at hcs
    subst hcs
    exact ⟨none, 0, [], rfl, Nat.le_refl _, by decide, fun k => absurd rfl k, fun _ k => by simp at k, Nat.zero_le _⟩
  · simp only [List.cons.injEq, and_true] at hcs
    subst hcs
    rw [show Tryz.prog.cellsOf 30 = 11 from by kernel_rfl] at hel
    have each : ∀ i, ∃ t : Dt, i < len → t.rd W ∧ (∀ j v, t.cells[j]? = some v → W.cell? ((a.add (i * 11)).add j) = some v) ∧ ∃ y, elems[i]? = some y ∧ t.tr.bulk ≤ Rows.uptoBulk y.1 := by
      intro i
      by_cases hi : i < len
      · have h1 := hel i hi
        rw [List.getElem?_eq_getElem (by omega)] at h1
        obtain ⟨cs, h2, h3⟩ := Option.bind_eq_some_iff.1 h1
        obtain ⟨_, hlc, hcell⟩ := World.cells?_some h2
        obtain ⟨t, rfl, hr, hb⟩ := ih n (by omega) cs _ h3
        exact ⟨t, fun _ => ⟨hr, fun j v hj => by rw [hcell j (by have := (List.getElem?_eq_some_iff.1 hj).1; rw [hlc] at this; exact this)]; exact hj, _, List.getElem?_eq_getElem (by omega), hb⟩⟩
      · exact ⟨.mk ⟨0, 0, ⟨⟨false, [], [], false, [], []⟩, none, 0, none, 0, none, 0, none, 0⟩, ⟨#[]⟩, none, 0, [], none, 0⟩ [], fun k => absurd k hi⟩
    obtain ⟨F, hF⟩ := Classical.skolem.1 each
    have hget : ∀ (j : Nat) (q : Dt), ((List.range len).map F)[j]? = some q → j < len ∧ q = F j := by
      intro j q hq
      rw [List.getElem?_map] at hq
      obtain ⟨y, h1, h2⟩ := Option.map_eq_some_iff.1 hq
      obtain ⟨h3, h4⟩ := List.getElem?_eq_some_iff.1 h1
      rw [List.length_range] at h3
      rw [List.getElem_range] at h4
      subst h4
      exact ⟨h3, h2.symm⟩
    refine ⟨some a, cap, (List.range len).map F, by simp, by simpa using hl, hm, fun hne => ?_, fun t ht => ?_, ?_⟩
    · have hn : 0 < len := by
        apply Classical.byContradiction
        intro k
        exact hne (by rw [show len = 0 from by omega]; rfl)
      obtain ⟨b, off, spot⟩ := a
      have h0 := (hF 0 hn).2.1 0 _ rfl
      have hspot : spot = none := by simpa [Addr.add] using World.cell?_spot h0
      subst hspot
      refine ⟨b, off, rfl, fun i t hi => ?_⟩
      obtain ⟨hlt, rfl⟩ := hget i t hi
      have hat : ∀ j v, (F i).cells[j]? = some v → W.cell? ⟨b, off + i * 11 + j, none⟩ = some v := fun j v hj => by
        have := (hF i hlt).2.1 j v hj
        rwa [Addr.add_lit, Addr.add_lit] at this
      exact ⟨zif (hat 0 _ rfl), hat⟩
    · obtain ⟨j, hj⟩ := List.mem_iff_getElem?.1 ht
      obtain ⟨h1, rfl⟩ := hget j t hj
      exact (hF j h1).1
    · rw [hx]
      have key : ∀ m, m ≤ len → Tr.bulks (((List.range m).map F).map Dt.tr) ≤ Rows.uptoBulkAll ((elems.map (·.1)).take m) := by
        intro m
        induction m with
        | zero => intro _; simp [Tr.bulks]
        | succ m ih2 =>
          intro hm2
          have hs : ∀ (l : List Tr) (t : Tr), Tr.bulks (l ++ [t]) = Tr.bulks l + t.bulk := by
            intro l t
            induction l with
            | nil => simp [Tr.bulks]
            | cons u l ih3 => simp only [List.cons_append, Tr.bulks, ih3]; omega
          have hu : ∀ (l : List (DataW H)) (d : DataW H), Rows.uptoBulkAll (l ++ [d]) = Rows.uptoBulkAll l + Rows.uptoBulk d := by
            intro l d
            induction l with
            | nil => simp [Rows.uptoBulkAll]
            | cons u l ih3 => simp only [List.cons_append, Rows.uptoBulkAll, ih3]; omega
          obtain ⟨_, _, y, hy, hb⟩ := hF m (by omega)
          have := ih2 (by omega)
          rw [List.range_succ, List.map_append, List.map_append, List.take_add_one, List.getElem?_map, hy]
          simp only [List.map_cons, List.map_nil, Option.map_some, Option.toList_some]
          rw [hs, hu]
          omega
      have h1 := key len (Nat.le_refl _)
      rw [List.take_of_length_le (by rw [List.length_map]; omega)] at h1
      simp only [Rows.uptoBulk]
      omega
theorem zna : ∀ fuel, OpenD H enc W fuel := by
  intro fuel
  induction fuel using Nat.strongRecOn with
  | ind fuel ih =>
    intro cs x h
    obtain ⟨xs, n, hfu, hx, hl, hxl, hf⟩ := DataW.trod_struct Tryz.underlying30 h
    rw [show Tryz.prog.cellsOf 30 = 11 from by kernel_rfl] at hl
    match cs, hl with
    | [v0, v1, v2, v3, v4, v5, v6, v7, v8, v9, v10], _ =>
      match xs, hxl with
      | [x0, x1, x2, x3, x4, x5], _ =>
        have g0 := hf 0 _ rfl
        have g1 := hf 1 _ rfl
        have g2 := hf 2 _ rfl
        have g3 := hf 3 _ rfl
        have g4 := hf 4 _ rfl
        have g5 := hf 5 _ rfl
        have c1 : Tryz.prog.cellsOf 3 = 1 := by kernel_rfl
        have c2 : Tryz.prog.cellsOf 26 = 6 := by kernel_rfl
        have c3 : Tryz.prog.cellsOf 9 = 1 := by kernel_rfl
        have c4 : Tryz.prog.cellsOf 27 = 1 := by kernel_rfl
        have c5 : Tryz.prog.cellsOf 28 = 1 := by kernel_rfl
        simp only [c1, c2, c3, c4, c5, List.drop_zero, List.take_succ_cons, List.take_zero, List.drop_succ_cons, List.getElem?_cons_zero, List.getElem?_cons_succ] at g0 g1 g2 g3 g4 g5
        obtain ⟨k, e0, _, w0⟩ := DataW.trod_int Tryz.underlying3 g0
        obtain ⟨m, e1, _, w1⟩ := DataW.trod_int Tryz.underlying3 g1
        obtain ⟨y, e2, hy, hq, b2⟩ := zdd rfl g2
        obtain ⟨s, e3, hs, hsm⟩ := DataW.trod_string Tryz.underlying9 g3
        obtain ⟨ro, rc, rl, e4, hr, hrc, hrm, b4⟩ := qvb g4
        obtain ⟨lo, lc, ts, e5, hlc, hlm, hrt, hrd, b5⟩ := qyi (fun n' hn' => ih n' (by omega)) g5
        have bk := bounds_i64 w0
        have bm := bounds_i64 w1
        refine ⟨.mk ⟨k, m, y, s, ro, rc, rl, lo, lc⟩ ts, ?_, ?_, ?_⟩
        · injection e0 with f0
          injection e1 with f1
          injection e3 with f3
          injection e2 with e20 g
          injection g with e21 g
          injection g with e22 g
          injection g with e23 g
          injection g with e24 g
          injection g with e25 g
          subst f0 f1 f3 e4 e5 e20 e21 e22 e23 e24 e25
          rfl
        · rw [Dt.rd_iff]
          exact ⟨⟨hy, hq, hr, hrc, hrm, bk.1, bk.2, bm.1, bm.2, hsm⟩, hlc, hlm, hrt, hrd⟩
        · rw [Dt.tr_mk, vg, hx, qki]
          have h3 : Rows.uptoBulk x3.1 = s.size + 1 := by
            rw [hs]
            rw [show Rows.uptoBulk (DataW.lit (H := H) (.string s.data.toList)) = s.data.toList.length + 1 from by simp only [Rows.uptoBulk], Array.length_toList]
            rfl
          simp only [List.map_cons, List.map_nil, Rows.uptoBulkAll]
          have := qui x0.1
          omega
theorem qyj {base : Nat} {v : Value} {d : DataW H} {p : List MemPlace} (hv : Value.okWide Tryz.prog W .any base 30 v) (h : DataW.Trod enc Tryz.prog W 0 (fun _ => true) true 30 v d p) :
    ∃ t : Dt, v = .agg t.cells.toArray ∧ t.rd W ∧ t.tr.bulk ≤ Rows.uptoBulk d := by
  obtain ⟨cs, rfl, hsz⟩ := okWide_struct Tryz.underlying30 hv
  obtain ⟨fuel, hf⟩ := h
  obtain ⟨t, e, hr, hb⟩ := zna fuel _ _ hf
  refine ⟨t, ?_, hr, hb⟩
  rw [← e]
  rfl
end
open Go.RowKit
theorem TwI_is1_28 : Is1 Tryz.prog 28 := ⟨⟨_, Tryz.underlying28, rfl⟩, by kernel_rfl⟩
theorem TwI_is1_3 : Is1 Tryz.prog 3 := ⟨⟨_, Tryz.underlying3, rfl⟩, by kernel_rfl⟩
theorem TwI_is1_9 : Is1 Tryz.prog 9 := ⟨⟨_, Tryz.underlying9, rfl⟩, by kernel_rfl⟩
theorem TwI_fld_30_0 : FieldAt Tryz.prog 30 0 0 := ⟨_, _, Tryz.underlying30, rfl, rfl, by kernel_rfl⟩
theorem TwI_fld_30_3 : FieldAt Tryz.prog 30 3 8 := ⟨_, _, Tryz.underlying30, rfl, rfl, by kernel_rfl⟩
theorem TwI_fld_30_5 : FieldAt Tryz.prog 30 5 10 := ⟨_, _, Tryz.underlying30, rfl, rfl, by kernel_rfl⟩
theorem TwI_fld_42_0 : FieldAt Tryz.prog 42 0 0 := ⟨_, _, Tryz.underlying42, rfl, rfl, by kernel_rfl⟩
theorem TwI_isS_30 : IsS Tryz.prog 30 11 := ⟨⟨_, Tryz.underlying30⟩, by kernel_rfl⟩
section
variable {P : Program} {w0 w : World} {L : List Ck} {l : List (Nat × Value)} {ops : List Oper} {Q : Exit → Act → World → Prop} {a : Act} {n : Nat} {o : Oper} {rest : List Oper} {d : Nat} {S : World → Prop} {md : Region.Mode} {fuel : Nat} {listed : Array Bool}
theorem zba (A : Sl a n l) (M : Mg w0 w L) (i : Nat) (hi : ops[i]? = some o) (hg : zh l ops o = true) (hdst : o.dst = some d) (hd : Nat.blt d n = true) {vs : List Value} {t : TypeId} (val : Nat → Value) (he : Does P l o w (val w.heap.size) (w.alloc (.cells vs.toArray t))) (ht : t ≠ BY)
  (hk : ∀ g w', Mg w0 w' (.obj g (.cells vs.toArray t) :: L) → S w' ∧ ∀ a', Sl a' n ((d, val g) :: l) → wpAnyH P md ops.toArray Q S fuel (listed.setIfInBounds i true) a' w') : wpOp P ops.toArray Q i (fun a' w' => S w' ∧ wpAnyH P md ops.toArray Q S fuel (listed.setIfInBounds i true) a' w') a w := by
 have h := hk _ _ (M.addObj _ (kt ht))
 exact znh A i hi hg hdst hd he h.1 h.2
end
theorem qkj {w : World} {t p0 p1 : Dt} (l2 : t.ts.length = 2) (g1 : p1.tr.good) (rp1_ : p1.rd w) {bp0 op0 bp1 op1 : Nat} (lp0 : t.d.lo = some ⟨bp0, op0, none⟩) (Hp0 : Here w bp0 (op0 + 0 * 11) (p0.d.cells p0.ts.length)) (lp1 : t.d.lo = some ⟨bp1, op1, none⟩) (Hp1 : Here w bp1 (op1 + 1 * 11) (p1.d.cells p1.ts.length)) : Calls Tryz.prog 62 #[.agg (t.d.cells t.ts.length).toArray] w fun e w' => (((isQ p0.tr && qtT p1.tr) = true ∧ ∃ c0 : Dt, p1.ts[0]? = some c0 ∧ c0 ∈ p1.ts ∧ p1.d.k = 8 ∧ p1.ts.length = 2 ∧ c0.rd w ∧ e = .returned (.tuple #[.agg (c0.d.cells c0.ts.length).toArray, .bool true])) ∨ ((isQ p0.tr && qtT p1.tr) = false ∧ e = .returned (.tuple #[.agg #[.int .i64 0, .int .i64 0, .bool false, .slice none 0 0, .slice none 0 0, .bool false, .slice none 0 0, .slice none 0 0, .string (⟨#[]⟩), .slice none 0 0, .slice none 0 0], .bool false]))) ∧ Below w.heap.size w w' := by
 have M : Mg w w ([]) := Mg.start w
 refine qm (l := [(0, .agg (t.d.cells t.ts.length).toArray)]) Tryz.func62 rfl Tryz.ntmps62 rfl rfl ?_
 intro Q hret hnorm hP a A
 refine wsk fun K1 hK1 => wrl (xa (vs := [.int .i64 t.d.k, .int .i64 t.d.n, .bool t.d.y.q.b1, .slice t.d.y.o1 t.d.y.q.t1.length t.d.y.c1, .slice t.d.y.o2 t.d.y.q.q1.length t.d.y.c2, .bool t.d.y.q.b2, .slice t.d.y.o3 t.d.y.q.t2.length t.d.y.c3, .slice t.d.y.o4 t.d.y.q.q2.length t.d.y.c4, .string t.d.s, .slice t.d.ro t.d.rl.length t.d.rc, .slice t.d.lo t.ts.length t.d.lc]) (t := 30) A M rfl rfl rfl pg (zb rfl rfl) (by decide) ?_)
 intro g2 w3 M a A
 refine xa (vs := [.int .i64 0, .int .i64 0, .bool false, .slice none 0 0, .slice none 0 0, .bool false, .slice none 0 0, .slice none 0 0, .string (⟨#[]⟩), .slice none 0 0, .slice none 0 0]) (t := 30) A M rfl rfl rfl pg (zv (z := .agg #[.int .i64 0, .int .i64 0, .bool false, .slice none 0 0, .slice none 0 0, .bool false, .slice none 0 0, .slice none 0 0, .string (⟨#[]⟩), .slice none 0 0, .slice none 0 0]) (by kernel_rfl) rfl) (by decide) ?_
 intro g4 w5 M a A
 refine sda A λa A↦?_
 refine qa (hK1 _ _ (wsk fun K6 hK6 => ?_))
 have hJ7 : ∀ a w1, (∃ (g4_ : Nat) (g5_ : Nat), Sl a 40 [(0, .agg (t.d.cells t.ts.length).toArray), (2, .pointer (some ⟨g4, 0, none⟩)), (3, .bool false), (4, .pointer (some ⟨g4_, 0, none⟩)), (5, .pointer (some ⟨g5_, 0, none⟩))] ∧ Mg w w1 (.obj g5_ (.cells (p1.d.cells p1.ts.length).toArray 30) :: .obj g4_ (.cells (p0.d.cells p0.ts.length).toArray 30) :: .obj g4 (.cells #[.int .i64 0, .int .i64 0, .bool false, .slice none 0 0, .slice none 0 0, .bool false, .slice none 0 0, .slice none 0 0, .string (⟨#[]⟩), .slice none 0 0, .slice none 0 0] 30) :: .obj g2 (.cells (t.d.cells t.ts.length).toArray 30) :: [])) → K6 a w1 := by
  clear A M
  rintro a w8 ⟨g4_, g5_, A, M⟩
  refine hK6 _ _ (wsk fun K9 hK9 => wsk fun K10 hK10 => wrl (sdo (v := .pointer (some ⟨g4_, 0, none⟩)) A (qb TwI_fld_30_0 rfl rfl) λa A↦?_))
  refine sdo A (qk M TwI_is1_3 rfl 1 rfl rfl) λa A↦?_
  rcases tf ((p0.d.k != 6)) with hb11 | hb11
  ·
   have hb11' := bne_iff_ne.1 hb11
   refine sdc A zw hb11 λa A↦?_
   refine sdm A λa A↦?_
   iterate 3 refine qh A rfl rfl rfl λa A↦?_
   refine sdk (v := .bool true) A λa A↦?_
   refine sdm A λa A↦?_
   iterate 3 refine qh A rfl rfl rfl λa A↦?_
   refine sdk (v := .bool true) A λa A↦?_
   refine sdm A λa A↦?_
   iterate 6 refine qh A rfl rfl rfl λa A↦?_
   refine sdk (v := .bool true) A λa A↦?_
   refine qa (hK10 _ _ (wp_cond_true (A.ev rfl) ?_))
   refine wsk fun K12 hK12 => wrl (sdo (v := .agg #[.int .i64 0, .int .i64 0, .bool false, .slice none 0 0, .slice none 0 0, .bool false, .slice none 0 0, .slice none 0 0, .string (⟨#[]⟩), .slice none 0 0, .slice none 0 0]) A (jb rfl (fun w => by kernel_rfl)) λa A↦?_)
   refine qz (us := [.int .i64 0, .int .i64 0, .bool false, .slice none 0 0, .slice none 0 0, .bool false, .slice none 0 0, .slice none 0 0, .string (⟨#[]⟩), .slice none 0 0, .slice none 0 0]) (L' := (.obj g5_ (.cells (p1.d.cells p1.ts.length).toArray 30) :: .obj g4_ (.cells (p0.d.cells p0.ts.length).toArray 30) :: .obj g4 (.cells #[.int .i64 0, .int .i64 0, .bool false, .slice none 0 0, .slice none 0 0, .bool false, .slice none 0 0, .slice none 0 0, .string (⟨#[]⟩), .slice none 0 0, .slice none 0 0] 30) :: .obj g2 (.cells (t.d.cells t.ts.length).toArray 30) :: [])) A M rfl rfl (qw rfl rfl rfl (by kernel_rfl) M 2 rfl rfl rfl) 2 rfl rfl rfl ?_
   intro w13 M
   refine sda A λa A↦?_
   refine qa (hK12 _ _ (wp_ret (hret _ _ (en2 A rfl (ue M TwI_isS_30 rfl 2 rfl (cs := [.int .i64 0, .int .i64 0, .bool false, .slice none 0 0, .slice none 0 0, .bool false, .slice none 0 0, .slice none 0 0, .string (⟨#[]⟩), .slice none 0 0, .slice none 0 0]) rfl rfl) (qf rfl) ?_))))
   exact ⟨.inr ⟨by rw [qhb, decide_eq_false hb11']; rfl, rfl⟩, M.bel⟩
  ·
   have hb11' := bne_eq_false_iff_eq.1 hb11
   refine sdc A zw hb11 λa A↦?_
   refine sdm A λa A↦?_
   refine sdo (v := .pointer (some ⟨g4_, 8, none⟩)) A (qb TwI_fld_30_3 rfl rfl) λa A↦?_
   refine sdo A (qk M TwI_is1_9 rfl 1 rfl rfl) λa A↦?_
   rcases tf (decide (p0.d.s = ⟨#[113, 117, 111, 116, 101]⟩)) with hb14 | hb14
   ·
    have hb14' := of_decide_eq_true hb14
    refine sdo (v := .bool false) A (qe rfl rfl (fun w => (ku Tryz.underlying9 w).trans (by rw [hb14] <;> rfl))) λa A↦?_
    refine sdk (v := .bool false) A λa A↦?_
    refine sdm A λa A↦?_
    refine sdo (v := .pointer (some ⟨g5_, 0, none⟩)) A (qb TwI_fld_30_0 rfl rfl) λa A↦?_
    refine sdo A (qk M TwI_is1_3 rfl 0 rfl rfl) λa A↦?_
    rcases tf ((p1.d.k != 8)) with hb15 | hb15
    ·
     have hb15' := bne_iff_ne.1 hb15
     refine sdc A zw hb15 λa A↦?_
     refine sdk (v := .bool true) A λa A↦?_
     refine sdm A λa A↦?_
     iterate 6 refine qh A rfl rfl rfl λa A↦?_
     refine sdk (v := .bool true) A λa A↦?_
     refine qa (hK10 _ _ (wp_cond_true (A.ev rfl) ?_))
     refine wsk fun K16 hK16 => wrl (sdo (v := .agg #[.int .i64 0, .int .i64 0, .bool false, .slice none 0 0, .slice none 0 0, .bool false, .slice none 0 0, .slice none 0 0, .string (⟨#[]⟩), .slice none 0 0, .slice none 0 0]) A (jb rfl (fun w => by kernel_rfl)) λa A↦?_)
     refine qz (us := [.int .i64 0, .int .i64 0, .bool false, .slice none 0 0, .slice none 0 0, .bool false, .slice none 0 0, .slice none 0 0, .string (⟨#[]⟩), .slice none 0 0, .slice none 0 0]) (L' := (.obj g5_ (.cells (p1.d.cells p1.ts.length).toArray 30) :: .obj g4_ (.cells (p0.d.cells p0.ts.length).toArray 30) :: .obj g4 (.cells #[.int .i64 0, .int .i64 0, .bool false, .slice none 0 0, .slice none 0 0, .bool false, .slice none 0 0, .slice none 0 0, .string (⟨#[]⟩), .slice none 0 0, .slice none 0 0] 30) :: .obj g2 (.cells (t.d.cells t.ts.length).toArray 30) :: [])) A M rfl rfl (qw rfl rfl rfl (by kernel_rfl) M 2 rfl rfl rfl) 2 rfl rfl rfl ?_
     intro w17 M
     refine sda A λa A↦?_
     refine qa (hK16 _ _ (wp_ret (hret _ _ (en2 A rfl (ue M TwI_isS_30 rfl 2 rfl (cs := [.int .i64 0, .int .i64 0, .bool false, .slice none 0 0, .slice none 0 0, .bool false, .slice none 0 0, .slice none 0 0, .string (⟨#[]⟩), .slice none 0 0, .slice none 0 0]) rfl rfl) (qf rfl) ?_))))
     exact ⟨.inr ⟨by rw [zoc hb15', Bool.and_false], rfl⟩, M.bel⟩
    ·
     have hb15' := bne_eq_false_iff_eq.1 hb15
     refine sdc A zw hb15 λa A↦?_
     refine sdk (v := .bool false) A λa A↦?_
     refine sdm A λa A↦?_
     refine sdo (v := .pointer (some ⟨g5_, 10, none⟩)) A (qb TwI_fld_30_5 rfl rfl) λa A↦?_
     refine sdo A (qk M TwI_is1_28 rfl 0 rfl rfl) λa A↦?_
     have h81 : p1.d.k = 8 := hb15'
     have l2q := (zq g1).1.h8 h81
     obtain ⟨c0, bc0, oc0, ic0, mc0, rc0_, lc0, Hc0⟩ := qgd rp1_ (i := 0) (by omega)
     obtain ⟨c1, bc1, oc1, ic1, mc1, rc1_, lc1, Hc1⟩ := qgd rp1_ (i := 1) (by omega)
     refine sdo (v := .pointer (some ⟨bc1, oc1 + 1 * 11, none⟩)) A (zk (k := 1) Tryz.underlying28 (by kernel_rfl) rfl rfl rfl lc1 (by omega)) λa A↦?_
     refine sdo (v := .pointer (some ⟨bc1, oc1 + 1 * 11, none⟩)) A (qb TwI_fld_30_0 rfl rfl) λa A↦?_
     refine sdo A (qbf (j := 0) M Hc1 TwI_is1_3 rfl rfl rfl) λa A↦?_
     rcases tf ((c1.d.k != 1)) with hb18 | hb18
     ·
      have hb18' := bne_iff_ne.1 hb18
      refine sdc A zw hb18 λa A↦?_
      refine sdk (v := .bool true) A λa A↦?_
      refine qa (hK10 _ _ (wp_cond_true (A.ev rfl) ?_))
      refine wsk fun K19 hK19 => wrl (sdo (v := .agg #[.int .i64 0, .int .i64 0, .bool false, .slice none 0 0, .slice none 0 0, .bool false, .slice none 0 0, .slice none 0 0, .string (⟨#[]⟩), .slice none 0 0, .slice none 0 0]) A (jb rfl (fun w => by kernel_rfl)) λa A↦?_)
      refine qz (us := [.int .i64 0, .int .i64 0, .bool false, .slice none 0 0, .slice none 0 0, .bool false, .slice none 0 0, .slice none 0 0, .string (⟨#[]⟩), .slice none 0 0, .slice none 0 0]) (L' := (.obj g5_ (.cells (p1.d.cells p1.ts.length).toArray 30) :: .obj g4_ (.cells (p0.d.cells p0.ts.length).toArray 30) :: .obj g4 (.cells #[.int .i64 0, .int .i64 0, .bool false, .slice none 0 0, .slice none 0 0, .bool false, .slice none 0 0, .slice none 0 0, .string (⟨#[]⟩), .slice none 0 0, .slice none 0 0] 30) :: .obj g2 (.cells (t.d.cells t.ts.length).toArray 30) :: [])) A M rfl rfl (qw rfl rfl rfl (by kernel_rfl) M 2 rfl rfl rfl) 2 rfl rfl rfl ?_
      intro w20 M
      refine sda A λa A↦?_
      refine qa (hK19 _ _ (wp_ret (hret _ _ (en2 A rfl (ue M TwI_isS_30 rfl 2 rfl (cs := [.int .i64 0, .int .i64 0, .bool false, .slice none 0 0, .slice none 0 0, .bool false, .slice none 0 0, .slice none 0 0, .string (⟨#[]⟩), .slice none 0 0, .slice none 0 0]) rfl rfl) (qf rfl) ?_))))
      exact ⟨.inr ⟨by rw [quf h81 l2q ic0 ic1, decide_eq_false hb18', Bool.and_false], rfl⟩, M.bel⟩
     ·
      have hb18' := bne_eq_false_iff_eq.1 hb18
      refine sdc A zw hb18 λa A↦?_
      refine sdk (v := .bool false) A λa A↦?_
      refine qa (hK10 _ _ (wp_cond_false (A.ev rfl) ?_))
      refine wp_skip (hK9 _ _ (wsk fun K21 hK21 => wrl (sdo (v := .pointer (some ⟨g5_, 10, none⟩)) A (qb TwI_fld_30_5 rfl rfl) λa A↦?_)))
      refine sdo A (qk M TwI_is1_28 rfl 0 rfl rfl) λa A↦?_
      refine sdo (v := .pointer (some ⟨bc0, oc0 + 0 * 11, none⟩)) A (zk (k := 0) Tryz.underlying28 (by kernel_rfl) rfl rfl rfl lc0 (by omega)) λa A↦?_
      refine sdo A (jt M Hc0 TwI_isS_30 rfl rfl) λa A↦?_
      refine qz (us := [.int .i64 c0.d.k, .int .i64 c0.d.n, .bool c0.d.y.q.b1, .slice c0.d.y.o1 c0.d.y.q.t1.length c0.d.y.c1, .slice c0.d.y.o2 c0.d.y.q.q1.length c0.d.y.c2, .bool c0.d.y.q.b2, .slice c0.d.y.o3 c0.d.y.q.t2.length c0.d.y.c3, .slice c0.d.y.o4 c0.d.y.q.q2.length c0.d.y.c4, .string c0.d.s, .slice c0.d.ro c0.d.rl.length c0.d.rc, .slice c0.d.lo c0.ts.length c0.d.lc]) (L' := (.obj g5_ (.cells (p1.d.cells p1.ts.length).toArray 30) :: .obj g4_ (.cells (p0.d.cells p0.ts.length).toArray 30) :: .obj g4 (.cells (c0.d.cells c0.ts.length).toArray 30) :: .obj g2 (.cells (t.d.cells t.ts.length).toArray 30) :: [])) A M rfl rfl (qw rfl rfl rfl (by kernel_rfl) M 2 rfl rfl rfl) 2 rfl rfl rfl ?_
      intro w22 M
      refine sda A λa A↦?_
      refine qa (hK21 _ _ (wp_ret (hret _ _ (en2 A rfl (ue M TwI_isS_30 rfl 2 rfl (cs := [.int .i64 c0.d.k, .int .i64 c0.d.n, .bool c0.d.y.q.b1, .slice c0.d.y.o1 c0.d.y.q.t1.length c0.d.y.c1, .slice c0.d.y.o2 c0.d.y.q.q1.length c0.d.y.c2, .bool c0.d.y.q.b2, .slice c0.d.y.o3 c0.d.y.q.t2.length c0.d.y.c3, .slice c0.d.y.o4 c0.d.y.q.q2.length c0.d.y.c4, .string c0.d.s, .slice c0.d.ro c0.d.rl.length c0.d.rc, .slice c0.d.lo c0.ts.length c0.d.lc]) rfl rfl) (qf rfl) ?_))))
      exact ⟨.inl ⟨by rw [qhb, quf h81 l2q ic0 ic1, decide_eq_true hb11', decide_eq_true hb14', decide_eq_true hb18']; rfl, c0, ic0, mc0, h81, l2q, rc0_, rfl⟩, M.bel⟩
   ·
    have hb14' := of_decide_eq_false hb14
    refine sdo (v := .bool true) A (qe rfl rfl (fun w => (ku Tryz.underlying9 w).trans (by rw [hb14] <;> rfl))) λa A↦?_
    refine sdk (v := .bool true) A λa A↦?_
    refine sdm A λa A↦?_
    iterate 3 refine qh A rfl rfl rfl λa A↦?_
    refine sdk (v := .bool true) A λa A↦?_
    refine sdm A λa A↦?_
    iterate 6 refine qh A rfl rfl rfl λa A↦?_
    refine sdk (v := .bool true) A λa A↦?_
    refine qa (hK10 _ _ (wp_cond_true (A.ev rfl) ?_))
    refine wsk fun K23 hK23 => wrl (sdo (v := .agg #[.int .i64 0, .int .i64 0, .bool false, .slice none 0 0, .slice none 0 0, .bool false, .slice none 0 0, .slice none 0 0, .string (⟨#[]⟩), .slice none 0 0, .slice none 0 0]) A (jb rfl (fun w => by kernel_rfl)) λa A↦?_)
    refine qz (us := [.int .i64 0, .int .i64 0, .bool false, .slice none 0 0, .slice none 0 0, .bool false, .slice none 0 0, .slice none 0 0, .string (⟨#[]⟩), .slice none 0 0, .slice none 0 0]) (L' := (.obj g5_ (.cells (p1.d.cells p1.ts.length).toArray 30) :: .obj g4_ (.cells (p0.d.cells p0.ts.length).toArray 30) :: .obj g4 (.cells #[.int .i64 0, .int .i64 0, .bool false, .slice none 0 0, .slice none 0 0, .bool false, .slice none 0 0, .slice none 0 0, .string (⟨#[]⟩), .slice none 0 0, .slice none 0 0] 30) :: .obj g2 (.cells (t.d.cells t.ts.length).toArray 30) :: [])) A M rfl rfl (qw rfl rfl rfl (by kernel_rfl) M 2 rfl rfl rfl) 2 rfl rfl rfl ?_
    intro w24 M
    refine sda A λa A↦?_
    refine qa (hK23 _ _ (wp_ret (hret _ _ (en2 A rfl (ue M TwI_isS_30 rfl 2 rfl (cs := [.int .i64 0, .int .i64 0, .bool false, .slice none 0 0, .slice none 0 0, .bool false, .slice none 0 0, .slice none 0 0, .string (⟨#[]⟩), .slice none 0 0, .slice none 0 0]) rfl rfl) (qf rfl) ?_))))
    exact ⟨.inr ⟨by rw [qhb, decide_eq_false hb14', Bool.and_false]; rfl, rfl⟩, M.bel⟩
 refine kq (S := fun w1 => Mg w w1 (.obj g2 (.cells (t.d.cells t.ts.length).toArray 30) :: [])) (by kernel_rfl) ?_
 replace M := M.drew
 refine za (v := .pointer (some ⟨g2, 10, none⟩)) A 0 rfl rfl rfl rfl hP (M.sub (.cons _ (.cons_cons _ (List.nil_sublist _)))) (fun w1 M => qb TwI_fld_30_5 rfl rfl) λa A↦?_
 refine za A 1 rfl rfl rfl rfl hP (M.sub (.cons _ (.cons_cons _ (List.nil_sublist _)))) (fun w1 M => qk M TwI_is1_28 rfl 0 rfl rfl) λa A↦?_
 refine za (v := .pointer (some ⟨bp0, op0 + 0 * 11, none⟩)) A 2 rfl rfl rfl rfl hP (M.sub (.cons _ (.cons_cons _ (List.nil_sublist _)))) (fun w1 M => zk (k := 0) Tryz.underlying28 (by kernel_rfl) rfl rfl rfl lp0 (by omega)) λa A↦?_
 refine za A 3 rfl rfl rfl rfl hP (M.sub (.cons _ (.cons_cons _ (List.nil_sublist _)))) (fun w1 M => jt M Hp0 TwI_isS_30 rfl rfl) λa A↦?_
 refine za (v := .pointer (some ⟨g2, 10, none⟩)) A 4 rfl rfl rfl rfl hP (M.sub (.cons _ (.cons_cons _ (List.nil_sublist _)))) (fun w1 M => qb TwI_fld_30_5 rfl rfl) λa A↦?_
 refine za A 5 rfl rfl rfl rfl hP (M.sub (.cons _ (.cons_cons _ (List.nil_sublist _)))) (fun w1 M => qk M TwI_is1_28 rfl 0 rfl rfl) λa A↦?_
 refine za (v := .pointer (some ⟨bp1, op1 + 1 * 11, none⟩)) A 6 rfl rfl rfl rfl hP (M.sub (.cons _ (.cons_cons _ (List.nil_sublist _)))) (fun w1 M => zk (k := 1) Tryz.underlying28 (by kernel_rfl) rfl rfl rfl lp1 (by omega)) λa A↦?_
 refine za A 7 rfl rfl rfl rfl hP (M.sub (.cons _ (.cons_cons _ (List.nil_sublist _)))) (fun w1 M => jt M Hp1 TwI_isS_30 rfl rfl) λa A↦?_
 refine qsb (rs := [8, 9]) (by kernel_rfl) (by simp) ⟨?_, ?_, trivial⟩
 ·
  refine zba (vs := [.int .i64 0, .int .i64 0, .bool false, .slice none 0 0, .slice none 0 0, .bool false, .slice none 0 0, .slice none 0 0, .string (⟨#[]⟩), .slice none 0 0, .slice none 0 0]) (t := 30) A M 8 rfl rfl rfl rfl pg (zv (z := .agg #[.int .i64 0, .int .i64 0, .bool false, .slice none 0 0, .slice none 0 0, .bool false, .slice none 0 0, .slice none 0 0, .string (⟨#[]⟩), .slice none 0 0, .slice none 0 0]) (by kernel_rfl) rfl) (by decide) ?_
  intro g25 w26 M
  refine ⟨(M.sub (.cons _ (.cons _ (.cons_cons _ (List.nil_sublist _))))), ?_⟩
  intro a A
  refine jp (by kernel_rfl) (zba (vs := [.int .i64 0, .int .i64 0, .bool false, .slice none 0 0, .slice none 0 0, .bool false, .slice none 0 0, .slice none 0 0, .string (⟨#[]⟩), .slice none 0 0, .slice none 0 0]) (t := 30) A M 9 rfl rfl rfl rfl pg (zv (z := .agg #[.int .i64 0, .int .i64 0, .bool false, .slice none 0 0, .slice none 0 0, .bool false, .slice none 0 0, .slice none 0 0, .string (⟨#[]⟩), .slice none 0 0, .slice none 0 0]) (by kernel_rfl) rfl) (by decide) ?_)
  intro g27 w28 M
  refine ⟨(M.sub (.cons _ (.cons _ (.cons _ (.cons_cons _ (List.nil_sublist _)))))), ?_⟩
  intro a A
  refine jp (by kernel_rfl) (qid (us := [.int .i64 p0.d.k, .int .i64 p0.d.n, .bool p0.d.y.q.b1, .slice p0.d.y.o1 p0.d.y.q.t1.length p0.d.y.c1, .slice p0.d.y.o2 p0.d.y.q.q1.length p0.d.y.c2, .bool p0.d.y.q.b2, .slice p0.d.y.o3 p0.d.y.q.t2.length p0.d.y.c3, .slice p0.d.y.o4 p0.d.y.q.q2.length p0.d.y.c4, .string p0.d.s, .slice p0.d.ro p0.d.rl.length p0.d.rc, .slice p0.d.lo p0.ts.length p0.d.lc]) (L' := (.obj g27 (.cells #[.int .i64 0, .int .i64 0, .bool false, .slice none 0 0, .slice none 0 0, .bool false, .slice none 0 0, .slice none 0 0, .string (⟨#[]⟩), .slice none 0 0, .slice none 0 0] 30) :: .obj g25 (.cells (p0.d.cells p0.ts.length).toArray 30) :: .obj g4 (.cells #[.int .i64 0, .int .i64 0, .bool false, .slice none 0 0, .slice none 0 0, .bool false, .slice none 0 0, .slice none 0 0, .string (⟨#[]⟩), .slice none 0 0, .slice none 0 0] 30) :: .obj g2 (.cells (t.d.cells t.ts.length).toArray 30) :: [])) A M 10 rfl rfl rfl (qw rfl rfl rfl (by kernel_rfl) M 1 rfl rfl rfl) 1 rfl rfl rfl ?_)
  intro w29 M
  refine ⟨(M.sub (.cons _ (.cons _ (.cons _ (.cons_cons _ (List.nil_sublist _)))))), ?_⟩
  refine jp (by kernel_rfl) (qid (us := [.int .i64 p1.d.k, .int .i64 p1.d.n, .bool p1.d.y.q.b1, .slice p1.d.y.o1 p1.d.y.q.t1.length p1.d.y.c1, .slice p1.d.y.o2 p1.d.y.q.q1.length p1.d.y.c2, .bool p1.d.y.q.b2, .slice p1.d.y.o3 p1.d.y.q.t2.length p1.d.y.c3, .slice p1.d.y.o4 p1.d.y.q.q2.length p1.d.y.c4, .string p1.d.s, .slice p1.d.ro p1.d.rl.length p1.d.rc, .slice p1.d.lo p1.ts.length p1.d.lc]) (L' := (.obj g27 (.cells (p1.d.cells p1.ts.length).toArray 30) :: .obj g25 (.cells (p0.d.cells p0.ts.length).toArray 30) :: .obj g4 (.cells #[.int .i64 0, .int .i64 0, .bool false, .slice none 0 0, .slice none 0 0, .bool false, .slice none 0 0, .slice none 0 0, .string (⟨#[]⟩), .slice none 0 0, .slice none 0 0] 30) :: .obj g2 (.cells (t.d.cells t.ts.length).toArray 30) :: [])) A M 11 rfl rfl rfl (qw rfl rfl rfl (by kernel_rfl) M 0 rfl rfl rfl) 0 rfl rfl rfl ?_)
  intro w30 M
  refine ⟨(M.sub (.cons _ (.cons _ (.cons _ (.cons_cons _ (List.nil_sublist _)))))), ?_⟩
  refine xw (by kernel_rfl) ?_
  exact hJ7 _ _ ⟨g25, g27, A.keep _ ⟨rfl, rfl, rfl, rfl, rfl, trivial⟩, M⟩
 ·
  refine zba (vs := [.int .i64 0, .int .i64 0, .bool false, .slice none 0 0, .slice none 0 0, .bool false, .slice none 0 0, .slice none 0 0, .string (⟨#[]⟩), .slice none 0 0, .slice none 0 0]) (t := 30) A M 9 rfl rfl rfl rfl pg (zv (z := .agg #[.int .i64 0, .int .i64 0, .bool false, .slice none 0 0, .slice none 0 0, .bool false, .slice none 0 0, .slice none 0 0, .string (⟨#[]⟩), .slice none 0 0, .slice none 0 0]) (by kernel_rfl) rfl) (by decide) ?_
  intro g31 w32 M
  refine ⟨(M.sub (.cons _ (.cons _ (.cons_cons _ (List.nil_sublist _))))), ?_⟩
  intro a A
  refine jp (by kernel_rfl) (zba (vs := [.int .i64 0, .int .i64 0, .bool false, .slice none 0 0, .slice none 0 0, .bool false, .slice none 0 0, .slice none 0 0, .string (⟨#[]⟩), .slice none 0 0, .slice none 0 0]) (t := 30) A M 8 rfl rfl rfl rfl pg (zv (z := .agg #[.int .i64 0, .int .i64 0, .bool false, .slice none 0 0, .slice none 0 0, .bool false, .slice none 0 0, .slice none 0 0, .string (⟨#[]⟩), .slice none 0 0, .slice none 0 0]) (by kernel_rfl) rfl) (by decide) ?_)
  intro g33 w34 M
  refine ⟨(M.sub (.cons _ (.cons _ (.cons _ (.cons_cons _ (List.nil_sublist _)))))), ?_⟩
  intro a A
  refine jp (by kernel_rfl) (qid (us := [.int .i64 p0.d.k, .int .i64 p0.d.n, .bool p0.d.y.q.b1, .slice p0.d.y.o1 p0.d.y.q.t1.length p0.d.y.c1, .slice p0.d.y.o2 p0.d.y.q.q1.length p0.d.y.c2, .bool p0.d.y.q.b2, .slice p0.d.y.o3 p0.d.y.q.t2.length p0.d.y.c3, .slice p0.d.y.o4 p0.d.y.q.q2.length p0.d.y.c4, .string p0.d.s, .slice p0.d.ro p0.d.rl.length p0.d.rc, .slice p0.d.lo p0.ts.length p0.d.lc]) (L' := (.obj g33 (.cells (p0.d.cells p0.ts.length).toArray 30) :: .obj g31 (.cells #[.int .i64 0, .int .i64 0, .bool false, .slice none 0 0, .slice none 0 0, .bool false, .slice none 0 0, .slice none 0 0, .string (⟨#[]⟩), .slice none 0 0, .slice none 0 0] 30) :: .obj g4 (.cells #[.int .i64 0, .int .i64 0, .bool false, .slice none 0 0, .slice none 0 0, .bool false, .slice none 0 0, .slice none 0 0, .string (⟨#[]⟩), .slice none 0 0, .slice none 0 0] 30) :: .obj g2 (.cells (t.d.cells t.ts.length).toArray 30) :: [])) A M 10 rfl rfl rfl (qw rfl rfl rfl (by kernel_rfl) M 0 rfl rfl rfl) 0 rfl rfl rfl ?_)
  intro w35 M
  refine ⟨(M.sub (.cons _ (.cons _ (.cons _ (.cons_cons _ (List.nil_sublist _)))))), ?_⟩
  refine jp (by kernel_rfl) (qid (us := [.int .i64 p1.d.k, .int .i64 p1.d.n, .bool p1.d.y.q.b1, .slice p1.d.y.o1 p1.d.y.q.t1.length p1.d.y.c1, .slice p1.d.y.o2 p1.d.y.q.q1.length p1.d.y.c2, .bool p1.d.y.q.b2, .slice p1.d.y.o3 p1.d.y.q.t2.length p1.d.y.c3, .slice p1.d.y.o4 p1.d.y.q.q2.length p1.d.y.c4, .string p1.d.s, .slice p1.d.ro p1.d.rl.length p1.d.rc, .slice p1.d.lo p1.ts.length p1.d.lc]) (L' := (.obj g33 (.cells (p0.d.cells p0.ts.length).toArray 30) :: .obj g31 (.cells (p1.d.cells p1.ts.length).toArray 30) :: .obj g4 (.cells #[.int .i64 0, .int .i64 0, .bool false, .slice none 0 0, .slice none 0 0, .bool false, .slice none 0 0, .slice none 0 0, .string (⟨#[]⟩), .slice none 0 0, .slice none 0 0] 30) :: .obj g2 (.cells (t.d.cells t.ts.length).toArray 30) :: [])) A M 11 rfl rfl rfl (qw rfl rfl rfl (by kernel_rfl) M 1 rfl rfl rfl) 1 rfl rfl rfl ?_)
  intro w36 M
  refine ⟨(M.sub (.cons _ (.cons _ (.cons _ (.cons_cons _ (List.nil_sublist _)))))), ?_⟩
  refine xw (by kernel_rfl) ?_
  replace M : Mg w w36 (.obj g31 (.cells (p1.d.cells p1.ts.length).toArray 30) :: .obj g33 (.cells (p0.d.cells p0.ts.length).toArray 30) :: .obj g4 (.cells #[.int .i64 0, .int .i64 0, .bool false, .slice none 0 0, .slice none 0 0, .bool false, .slice none 0 0, .slice none 0 0, .string (⟨#[]⟩), .slice none 0 0, .slice none 0 0] 30) :: .obj g2 (.cells (t.d.cells t.ts.length).toArray 30) :: []) := M.perm (.swap _ _ _)
  exact hJ7 _ _ ⟨g33, g31, A.keep _ ⟨rfl, rfl, rfl, rfl, rfl, trivial⟩, M⟩
theorem qza {w : World} {t p0 p1 : Dt} (l2 : t.ts.length = 2) (g1 : p1.tr.good) (rp1_ : p1.rd w) {bp0 op0 bp1 op1 : Nat} (lp0 : t.d.lo = some ⟨bp0, op0, none⟩) (Hp0 : Here w bp0 (op0 + 0 * 11) (p0.d.cells p0.ts.length)) (lp1 : t.d.lo = some ⟨bp1, op1, none⟩) (Hp1 : Here w bp1 (op1 + 1 * 11) (p1.d.cells p1.ts.length)) (hq : (isQ p0.tr && qtT p1.tr) = true) : Calls Tryz.prog 62 #[.agg (t.d.cells t.ts.length).toArray] w fun e w' => ∃ c0 : Dt, p1.ts[0]? = some c0 ∧ c0 ∈ p1.ts ∧ p1.d.k = 8 ∧ p1.ts.length = 2 ∧ c0.rd w ∧ e = .returned (.tuple #[.agg (c0.d.cells c0.ts.length).toArray, .bool true]) ∧ Below w.heap.size w w' :=
 (qkj l2 g1 rp1_ lp0 Hp0 lp1 Hp1).mono fun e w' ⟨h, hb⟩ => by
  rcases h with ⟨_, c0, h1, h2, h3, h4, h5, h6⟩ | ⟨h, _⟩
  ·
   exact ⟨c0, h1, h2, h3, h4, h5, h6, hb⟩
  ·
   rw [hq] at h; cases h
theorem zde {w : World} {t p0 p1 : Dt} (l2 : t.ts.length = 2) (g1 : p1.tr.good) (rp1_ : p1.rd w) {bp0 op0 bp1 op1 : Nat} (lp0 : t.d.lo = some ⟨bp0, op0, none⟩) (Hp0 : Here w bp0 (op0 + 0 * 11) (p0.d.cells p0.ts.length)) (lp1 : t.d.lo = some ⟨bp1, op1, none⟩) (Hp1 : Here w bp1 (op1 + 1 * 11) (p1.d.cells p1.ts.length)) (hq : (isQ p0.tr && qtT p1.tr) = false) : Calls Tryz.prog 62 #[.agg (t.d.cells t.ts.length).toArray] w fun e w' => e = .returned (.tuple #[.agg #[.int .i64 0, .int .i64 0, .bool false, .slice none 0 0, .slice none 0 0, .bool false, .slice none 0 0, .slice none 0 0, .string (⟨#[]⟩), .slice none 0 0, .slice none 0 0], .bool false]) ∧ Below w.heap.size w w' :=
 (qkj l2 g1 rp1_ lp0 Hp0 lp1 Hp1).mono fun e w' ⟨h, hb⟩ => by
  rcases h with ⟨h, _⟩ | ⟨_, h⟩
  ·
   rw [hq] at h; cases h
  ·
   exact ⟨h, hb⟩
def Writes (n : Nat) : Prop := ∀ {w0 w : World} {gw : Nat} {p v : Value} {pl : Bool} {bs : List UInt8} {T : List Ck} {t : Dt}, (p = .pointer none ∨ p = .pointer (some ⟨gw, 0, none⟩)) → Mg w0 w (.obj gw (.cells #[p, v, .bool pl] 42) :: .row BY 1 v bs.length (Lib.byteCells bs) :: T) → QT T → t.tr.bulk < n → t.rd w0 → t.tr.good → C.Tz16 w0 → C.Tp10 w0 → t.tr.bulk ≤ 1048576 → bs.length + 64 * t.tr.bulk ≤ 1000000000 → Calls Tryz.prog 12 #[.pointer (some ⟨gw, 0, none⟩), .agg (t.d.cells t.ts.length).toArray] w fun e w' => e = .returned (.tuple #[]) ∧ ∃ v', Mg w0 w' (.obj gw (.cells #[.pointer (some ⟨gw, 0, none⟩), v', .bool pl] 42) :: .row BY 1 v' (bs ++ wrT pl t.tr).length (Lib.byteCells (bs ++ wrT pl t.tr)) :: T)
theorem zsa {w0 w : World} {gw : Nat} {p v : Value} {pl : Bool} {bs : List UInt8} {T : List Ck} (hp : p = .pointer none ∨ p = .pointer (some ⟨gw, 0, none⟩)) (hM0 : Mg w0 w (.obj gw (.cells #[p, v, .bool pl] 42) :: .row BY 1 v bs.length (Lib.byteCells bs) :: T)) (hT : QT T) {n : Nat} (ih : Writes n) {t : Dt} (ht : t.rd w0) (gt : t.tr.good) (hbn : t.tr.bulk ≤ n) (hz : C.Tz16 w0) (htp : C.Tp10 w0) (hmax : t.tr.bulk ≤ 1048576) (hroom : bs.length + (64 * t.tr.bulk) ≤ 1000000000) : Calls Tryz.prog 31 #[.pointer (some ⟨gw, 0, none⟩), .slice t.d.lo t.ts.length t.d.lc] w fun e w' => e = .returned (.tuple #[]) ∧ ∃ v', Mg w0 w' (.obj gw (.cells #[.pointer (some ⟨gw, 0, none⟩), v', .bool pl] 42) :: .row BY 1 v' (bs ++ ([35, 40] ++ wrL pl true (t.ts.map Dt.tr) ++ [41])).length (Lib.byteCells (bs ++ ([35, 40] ++ wrL pl true (t.ts.map Dt.tr) ++ [41]))) :: T) := by
 have hlt := (Dt.okT ht).2
 have hbl := qff (t := t)
 have M : Mg w0 w (.obj gw (.cells #[p, v, .bool pl] 42) :: .row BY 1 (v) bs.length ((Lib.byteCells bs)) :: T) := hM0
 refine qm (l := [(0, .pointer (some ⟨gw, 0, none⟩)), (1, .slice t.d.lo t.ts.length t.d.lc)]) Tryz.func31 rfl Tryz.ntmps31 rfl rfl ?_
 intro Q hret hnorm hP a A
 refine wsk fun K1 hK1 => wrl (sdm A λa A↦?_)
 refine sdo A (qi rfl) λa A↦?_
 refine sdo (v := .pointer (some ⟨gw, 0, none⟩)) A (qb TwI_fld_42_0 rfl rfl) λa A↦?_
 refine sct A (ef rfl rfl) (ja hp (toW (X := []) M) (s := ⟨#[35, 40]⟩) (by first | omega | (simp only [List.length_append, List.length_cons, List.length_nil]; omega) | (simp only [List.length_append, List.length_cons, List.length_nil, ByteArray.size, List.size_toArray, Array.size]; omega))) ?_
 rintro _ w5 ⟨rfl, v2, hM3⟩
 replace M : Mg w0 w5 (.obj gw (.cells #[.pointer (some ⟨gw, 0, none⟩), v2, .bool pl] 42) :: .row BY 1 (v2) (((bs ++ ([35, 40]))).length) ((Lib.byteCells ((bs ++ ([35, 40]))))) :: T) := (qs (X := []) hM3)
 refine ⟨_, rfl, ?_⟩
 intro a A
 refine qa (hK1 _ _ (wsk fun K6 hK6 => wsk fun K7 hK7 => wrl (sdm A λa A↦?_)))
 refine sdo A (qx Tryz.underlying28 rfl) λa A↦?_
 refine sdm A λa A↦?_
 refine qa (hK7 _ _ (wp_block ?_))
 replace M : Mg w0 w5 (.obj gw (.cells #[.pointer (some ⟨gw, 0, none⟩), v2, .bool pl] 42) :: .row BY 1 (v2) ((((bs ++ [35, 40]) ++ [])).length) ((Lib.byteCells (((bs ++ [35, 40]) ++ [])))) :: T) := by
  have h9 := M
  simp only [List.append_assoc, List.append_nil, List.nil_append] at h9 ⊢
  exact h9
 refine zt (fun m_ a w1 => ∃ (i : Nat) (acc : List UInt8) (vo : Value), m_ = 1 + (t.ts.length - i) ∧ (i ≤ t.ts.length ∧ acc ++ wrL pl (decide (i = 0)) ((t.ts.map Dt.tr).drop i) = wrL pl true (t.ts.map Dt.tr) ∧ acc.length + 64 * Tr.bulks ((t.ts.map Dt.tr).drop i) ≤ 64 * Tr.bulks (t.ts.map Dt.tr)) ∧ Sl a 28 [(0, .pointer (some ⟨gw, 0, none⟩)), (1, .slice t.d.lo t.ts.length t.d.lc), (6, .pointer (some ⟨gw, 0, none⟩)), (7, .pointer (some ⟨gw, 0, none⟩)), (8, .pointer (some ⟨gw, 0, none⟩)), (9, .tuple #[.int .i64 ((((⟨#[35, 40]⟩ : ByteArray).size : Nat) : Int)), .nilIface]), (10, .slice t.d.lo t.ts.length t.d.lc), (11, .int .i64 (((t.ts.length : Nat) : Int))), (12, .int .i64 (((i : Nat) : Int)))] ∧ Mg w0 w1 (.obj gw (.cells #[.pointer (some ⟨gw, 0, none⟩), vo, .bool pl] 42) :: .row BY 1 (vo) (((bs ++ [35, 40]) ++ acc).length) ((Lib.byteCells ((bs ++ [35, 40]) ++ acc))) :: T)) _ ⟨0, [], v2, rfl, ⟨Nat.zero_le _, rfl, by rw [List.drop_zero, List.length_nil]; omega⟩, A.keep _ ⟨rfl, rfl, rfl, rfl, rfl, rfl, rfl, rfl, rfl, trivial⟩, M⟩ ?_
 clear M A
 rintro m_ a w8 ⟨i, acc, vo, rfl, hinv10, A, M⟩ K9 hK9
 obtain ⟨hi0, hin9, ha9⟩ := hinv10
 refine wsk fun K11 hK11 => wrl ?_
 rcases tf (decide (((i : Nat) : Int) < ((t.ts.length : Nat) : Int))) with hb12 | hb12
 ·
  have hb12' := of_decide_eq_true hb12
  refine sdc A zg hb12 λa A↦?_
  refine qa (hK11 _ _ (wsk fun K13 hK13 => wp_cond_true (A.ev rfl) ?_))
  refine wp_skip (hK13 _ _ (wsk fun K14 hK14 => wp_block (wsk fun K15 hK15 => ?_)))
  obtain ⟨t1, bt1, ot1, it1, mt1, rt1_, lt1, Ht1⟩ := qgd ht (i := i) (by omega)
  have hbk9 := qkd (ts := t.ts) it1
  have hw9 := (qba pl t1.tr ((zq gt).2.2 _ mt1)).1
  refine wrl (sdm A λa A↦?_)
  refine sdo (v := .pointer (some ⟨bt1, ot1 + i * 11, none⟩)) A (zk (k := i) Tryz.underlying28 (by kernel_rfl) rfl rfl rfl lt1 (by omega)) λa A↦?_
  refine sdo A (jt M Ht1 TwI_isS_30 rfl rfl) λa A↦?_
  refine xa (vs := [.int .i64 0, .int .i64 0, .bool false, .slice none 0 0, .slice none 0 0, .bool false, .slice none 0 0, .slice none 0 0, .string (⟨#[]⟩), .slice none 0 0, .slice none 0 0]) (t := 30) A M rfl rfl rfl pg (zv (z := .agg #[.int .i64 0, .int .i64 0, .bool false, .slice none 0 0, .slice none 0 0, .bool false, .slice none 0 0, .slice none 0 0, .string (⟨#[]⟩), .slice none 0 0, .slice none 0 0]) (by kernel_rfl) rfl) (by decide) ?_
  intro g16 w17 M a A
  refine sda A λa A↦?_
  refine qz (us := [.int .i64 t1.d.k, .int .i64 t1.d.n, .bool t1.d.y.q.b1, .slice t1.d.y.o1 t1.d.y.q.t1.length t1.d.y.c1, .slice t1.d.y.o2 t1.d.y.q.q1.length t1.d.y.c2, .bool t1.d.y.q.b2, .slice t1.d.y.o3 t1.d.y.q.t2.length t1.d.y.c3, .slice t1.d.y.o4 t1.d.y.q.q2.length t1.d.y.c4, .string t1.d.s, .slice t1.d.ro t1.d.rl.length t1.d.rc, .slice t1.d.lo t1.ts.length t1.d.lc]) (L' := (.obj g16 (.cells (t1.d.cells t1.ts.length).toArray 30) :: .obj gw (.cells #[.pointer (some ⟨gw, 0, none⟩), vo, .bool pl] 42) :: .row BY 1 (vo) (((bs ++ [35, 40]) ++ acc).length) ((Lib.byteCells ((bs ++ [35, 40]) ++ acc))) :: T)) A M rfl rfl (qw rfl rfl rfl (by kernel_rfl) M 0 rfl rfl rfl) 0 rfl rfl rfl ?_
  intro w18 M
  refine qa (hK15 _ _ (wsk fun K19 hK19 => wrl ?_))
  iterate 2 refine sdm A λa A↦?_
  rcases tf (decide (i = 0)) with hb20 | hb20
  ·
   have hb20' := of_decide_eq_true hb20
   refine sct A (ef rfl rfl) ((show Calls Tryz.prog 60 #[.pointer (some ⟨gw, 0, none⟩), .int .i64 ((i : Nat) : Int)] _ _ from by rw [hb20']; exact zic (toW (X := [.obj g16 (.cells (t1.d.cells t1.ts.length).toArray 30)]) M))) ?_
   rintro _ w22 ⟨rfl, hM21⟩
   replace M : Mg w0 w22 (.obj g16 (.cells (t1.d.cells t1.ts.length).toArray 30) :: .obj gw (.cells #[.pointer (some ⟨gw, 0, none⟩), vo, .bool pl] 42) :: .row BY 1 (vo) (((bs ++ [35, 40]) ++ acc).length) ((Lib.byteCells ((bs ++ [35, 40]) ++ acc))) :: T) := (qs (X := [.obj g16 (.cells (t1.d.cells t1.ts.length).toArray 30)]) hM21)
   refine ⟨_, rfl, ?_⟩
   intro a A
   refine qa (hK19 _ _ (wrl (sdm A λa A↦?_)))
   refine sdo A (zn M TwI_isS_30 rfl 0 rfl (cs := [.int .i64 t1.d.k, .int .i64 t1.d.n, .bool t1.d.y.q.b1, .slice t1.d.y.o1 t1.d.y.q.t1.length t1.d.y.c1, .slice t1.d.y.o2 t1.d.y.q.q1.length t1.d.y.c2, .bool t1.d.y.q.b2, .slice t1.d.y.o3 t1.d.y.q.t2.length t1.d.y.c3, .slice t1.d.y.o4 t1.d.y.q.q2.length t1.d.y.c4, .string t1.d.s, .slice t1.d.ro t1.d.rl.length t1.d.rc, .slice t1.d.lo t1.ts.length t1.d.lc]) rfl rfl) λa A↦?_
   refine sct A (ef rfl rfl) (ih (.inr rfl) (toW (X := [.obj g16 (.cells (t1.d.cells t1.ts.length).toArray 30)]) M) (.cons (by decide) hT) (t := t1) (by have := qna mt1; omega) rt1_ ((zq gt).2.2 _ mt1) hz htp (by have := qna mt1; omega) (by simp only [List.length_append, List.length_cons, List.length_nil]; omega)) ?_
   rintro _ w26 ⟨rfl, v23, hM24⟩
   replace M : Mg w0 w26 (.obj g16 (.cells (t1.d.cells t1.ts.length).toArray 30) :: .obj gw (.cells #[.pointer (some ⟨gw, 0, none⟩), v23, .bool pl] 42) :: .row BY 1 (v23) (((((bs ++ [35, 40]) ++ acc) ++ (wrT pl t1.tr))).length) ((Lib.byteCells ((((bs ++ [35, 40]) ++ acc) ++ (wrT pl t1.tr))))) :: T) := (qs (X := [.obj g16 (.cells (t1.d.cells t1.ts.length).toArray 30)]) hM24)
   refine ⟨_, rfl, ?_⟩
   intro a A
   refine qa (hK14 _ _ (wrl (sdo (v := .int .i64 (((i + 1 : Nat) : Int))) A (qe rfl rfl (fun w => (zx (jw (by omega) (by omega)) w).trans (by rw [show (((i : Nat) : Int) + 1 : Int) = ((i + 1 : Nat) : Int) from by omega]))) λa A↦?_)))
   refine sdm A λa A↦?_
   refine qa ?_
   replace M : Mg w0 w26 (.obj gw (.cells #[.pointer (some ⟨gw, 0, none⟩), v23, .bool pl] 42) :: .row BY 1 (v23) (((((bs ++ [35, 40]) ++ acc) ++ (wrT pl t1.tr))).length) ((Lib.byteCells ((((bs ++ [35, 40]) ++ acc) ++ (wrT pl t1.tr))))) :: T) := by
    have h9 := M.sub (.cons _ (.cons_cons _ (.cons_cons _ (.refl _))))
    exact h9
   replace M : Mg w0 w26 (.obj gw (.cells #[.pointer (some ⟨gw, 0, none⟩), v23, .bool pl] 42) :: .row BY 1 (v23) ((((bs ++ [35, 40]) ++ (acc ++ ([] ++ wrT pl t1.tr)))).length) ((Lib.byteCells (((bs ++ [35, 40]) ++ (acc ++ ([] ++ wrT pl t1.tr)))))) :: T) := by
    have h9 := M
    simp only [List.append_assoc, List.append_nil, List.nil_append] at h9 ⊢
    exact h9
   refine hK9 _ _ _ (by omega) ⟨i + 1, acc ++ ([] ++ wrT pl t1.tr), v23, rfl, ⟨by omega, by rw [← hin9, show decide (i + 1 = 0) = false from decide_eq_false (by omega), zhc (f := decide (i = 0)) it1, hb20]; rw [if_pos rfl]; simp only [List.append_assoc], by simp only [List.length_append, List.length_cons, List.length_nil]; omega⟩, A.keep _ ⟨rfl, rfl, rfl, rfl, rfl, rfl, rfl, rfl, rfl, trivial⟩, M⟩
  ·
   have hb20' := of_decide_eq_false hb20
   refine sct A (ef rfl rfl) (zid (.inr rfl) (toW (X := [.obj g16 (.cells (t1.d.cells t1.ts.length).toArray 30)]) M) (.cons (by decide) hT) (i := ((i : Nat) : Int)) (by omega) (by first | omega | (simp only [List.length_append, List.length_cons, List.length_nil]; omega) | (simp only [List.length_append, List.length_cons, List.length_nil, ByteArray.size, List.size_toArray, Array.size]; omega))) ?_
   rintro _ w30 ⟨rfl, v27, hM28⟩
   replace M : Mg w0 w30 (.obj g16 (.cells (t1.d.cells t1.ts.length).toArray 30) :: .obj gw (.cells #[.pointer (some ⟨gw, 0, none⟩), v27, .bool pl] 42) :: .row BY 1 (v27) (((((bs ++ [35, 40]) ++ acc) ++ ([32]))).length) ((Lib.byteCells ((((bs ++ [35, 40]) ++ acc) ++ ([32]))))) :: T) := (qs (X := [.obj g16 (.cells (t1.d.cells t1.ts.length).toArray 30)]) hM28)
   refine ⟨_, rfl, ?_⟩
   intro a A
   refine qa (hK19 _ _ (wrl (sdm A λa A↦?_)))
   refine sdo A (zn M TwI_isS_30 rfl 0 rfl (cs := [.int .i64 t1.d.k, .int .i64 t1.d.n, .bool t1.d.y.q.b1, .slice t1.d.y.o1 t1.d.y.q.t1.length t1.d.y.c1, .slice t1.d.y.o2 t1.d.y.q.q1.length t1.d.y.c2, .bool t1.d.y.q.b2, .slice t1.d.y.o3 t1.d.y.q.t2.length t1.d.y.c3, .slice t1.d.y.o4 t1.d.y.q.q2.length t1.d.y.c4, .string t1.d.s, .slice t1.d.ro t1.d.rl.length t1.d.rc, .slice t1.d.lo t1.ts.length t1.d.lc]) rfl rfl) λa A↦?_
   refine sct A (ef rfl rfl) (ih (.inr rfl) (toW (X := [.obj g16 (.cells (t1.d.cells t1.ts.length).toArray 30)]) M) (.cons (by decide) hT) (t := t1) (by have := qna mt1; omega) rt1_ ((zq gt).2.2 _ mt1) hz htp (by have := qna mt1; omega) (by simp only [List.length_append, List.length_cons, List.length_nil]; omega)) ?_
   rintro _ w34 ⟨rfl, v31, hM32⟩
   replace M : Mg w0 w34 (.obj g16 (.cells (t1.d.cells t1.ts.length).toArray 30) :: .obj gw (.cells #[.pointer (some ⟨gw, 0, none⟩), v31, .bool pl] 42) :: .row BY 1 (v31) ((((((bs ++ [35, 40]) ++ acc) ++ ([32])) ++ (wrT pl t1.tr))).length) ((Lib.byteCells (((((bs ++ [35, 40]) ++ acc) ++ ([32])) ++ (wrT pl t1.tr))))) :: T) := (qs (X := [.obj g16 (.cells (t1.d.cells t1.ts.length).toArray 30)]) hM32)
   refine ⟨_, rfl, ?_⟩
   intro a A
   refine qa (hK14 _ _ (wrl (sdo (v := .int .i64 (((i + 1 : Nat) : Int))) A (qe rfl rfl (fun w => (zx (jw (by omega) (by omega)) w).trans (by rw [show (((i : Nat) : Int) + 1 : Int) = ((i + 1 : Nat) : Int) from by omega]))) λa A↦?_)))
   refine sdm A λa A↦?_
   refine qa ?_
   replace M : Mg w0 w34 (.obj gw (.cells #[.pointer (some ⟨gw, 0, none⟩), v31, .bool pl] 42) :: .row BY 1 (v31) ((((((bs ++ [35, 40]) ++ acc) ++ ([32])) ++ (wrT pl t1.tr))).length) ((Lib.byteCells (((((bs ++ [35, 40]) ++ acc) ++ ([32])) ++ (wrT pl t1.tr))))) :: T) := by
    have h9 := M.sub (.cons _ (.cons_cons _ (.cons_cons _ (.refl _))))
    exact h9
   replace M : Mg w0 w34 (.obj gw (.cells #[.pointer (some ⟨gw, 0, none⟩), v31, .bool pl] 42) :: .row BY 1 (v31) ((((bs ++ [35, 40]) ++ (acc ++ ([32] ++ wrT pl t1.tr)))).length) ((Lib.byteCells (((bs ++ [35, 40]) ++ (acc ++ ([32] ++ wrT pl t1.tr)))))) :: T) := by
    have h9 := M
    simp only [List.append_assoc, List.append_nil, List.nil_append] at h9 ⊢
    exact h9
   refine hK9 _ _ _ (by omega) ⟨i + 1, acc ++ ([32] ++ wrT pl t1.tr), v31, rfl, ⟨by omega, by rw [← hin9, show decide (i + 1 = 0) = false from decide_eq_false (by omega), zhc (f := decide (i = 0)) it1, hb20, if_neg (show ¬ false = true by decide)]; simp only [List.append_assoc], by simp only [List.length_append, List.length_cons, List.length_nil]; omega⟩, A.keep _ ⟨rfl, rfl, rfl, rfl, rfl, rfl, rfl, rfl, rfl, trivial⟩, M⟩
 ·
  have hb12' := of_decide_eq_false hb12
  refine sdc A zg hb12 λa A↦?_
  refine qa (hK11 _ _ (wsk fun K35 hK35 => wp_cond_false (A.ev rfl) ?_))
  refine wp_exit (hK6 _ _ (wrl (sdm A λa A↦?_)))
  refine sdo A (qi rfl) λa A↦?_
  refine sdo (v := .pointer (some ⟨gw, 0, none⟩)) A (qb TwI_fld_42_0 rfl rfl) λa A↦?_
  refine sct A (ef rfl rfl) (zi (.inr rfl) (toW (X := []) M) hT (b := 41) (by first | omega | (simp only [List.length_append, List.length_cons, List.length_nil]; omega) | (simp only [List.length_append, List.length_cons, List.length_nil, ByteArray.size, List.size_toArray, Array.size]; omega))) ?_
  rintro _ w39 ⟨rfl, v36, hM37⟩
  replace M : Mg w0 w39 (.obj gw (.cells #[.pointer (some ⟨gw, 0, none⟩), v36, .bool pl] 42) :: .row BY 1 (v36) (((((bs ++ [35, 40]) ++ acc) ++ ([41]))).length) ((Lib.byteCells ((((bs ++ [35, 40]) ++ acc) ++ ([41]))))) :: T) := (qs (X := []) hM37)
  refine ⟨_, rfl, ?_⟩
  intro a A
  refine qa (hnorm _ _ (ji (v := .tuple #[]) A rfl .nil rfl ?_))
  refine ⟨rfl, v36, ?_⟩
  have hM8 := M.sub (L' := _ :: _ :: T) (.cons_cons _ (.cons_cons _ (.refl _)))
  rw [show [35, 40] ++ wrL pl true (t.ts.map Dt.tr) ++ [41] = ([35, 40]) ++ (acc ++ ([41])) from (by rw [← hin9, zmb (by omega), List.append_nil, List.append_assoc])]
  simpa only [List.append_assoc, List.append_nil, List.cons_append, List.nil_append] using hM8
theorem TwJ_is1_27 : Is1 Tryz.prog 27 := ⟨⟨_, Tryz.underlying27, rfl⟩, by kernel_rfl⟩
theorem TwJ_is1_28 : Is1 Tryz.prog 28 := ⟨⟨_, Tryz.underlying28, rfl⟩, by kernel_rfl⟩
theorem TwJ_is1_3 : Is1 Tryz.prog 3 := ⟨⟨_, Tryz.underlying3, rfl⟩, by kernel_rfl⟩
theorem TwJ_is1_9 : Is1 Tryz.prog 9 := ⟨⟨_, Tryz.underlying9, rfl⟩, by kernel_rfl⟩
theorem TwJ_fld_30_0 : FieldAt Tryz.prog 30 0 0 := ⟨_, _, Tryz.underlying30, rfl, rfl, by kernel_rfl⟩
theorem TwJ_fld_30_1 : FieldAt Tryz.prog 30 1 1 := ⟨_, _, Tryz.underlying30, rfl, rfl, by kernel_rfl⟩
theorem TwJ_fld_30_2 : FieldAt Tryz.prog 30 2 2 := ⟨_, _, Tryz.underlying30, rfl, rfl, by kernel_rfl⟩
theorem TwJ_fld_30_3 : FieldAt Tryz.prog 30 3 8 := ⟨_, _, Tryz.underlying30, rfl, rfl, by kernel_rfl⟩
theorem TwJ_fld_30_4 : FieldAt Tryz.prog 30 4 9 := ⟨_, _, Tryz.underlying30, rfl, rfl, by kernel_rfl⟩
theorem TwJ_fld_30_5 : FieldAt Tryz.prog 30 5 10 := ⟨_, _, Tryz.underlying30, rfl, rfl, by kernel_rfl⟩
theorem TwJ_fld_42_0 : FieldAt Tryz.prog 42 0 0 := ⟨_, _, Tryz.underlying42, rfl, rfl, by kernel_rfl⟩
theorem TwJ_isS_26 : IsS Tryz.prog 26 6 := ⟨⟨_, Tryz.underlying26⟩, by kernel_rfl⟩
theorem TwJ_isS_30 : IsS Tryz.prog 30 11 := ⟨⟨_, Tryz.underlying30⟩, by kernel_rfl⟩
theorem zii {w : World} {t c : Dt} (h : t.rd w) (hc : c ∈ t.ts) : c.rd w := by
 rw [← Dt.eta t, Dt.rd_iff] at h
 exact h.2.2.2.2 c hc
theorem zij {pl : Bool} {p c : Dt} (h : p.ts[0]? = some c) : itT pl p.tr = wrT pl c.tr := by
 rw [Dt.tr_eta p, itT]
 match hh : p.ts, h with
 | x :: xs, h => simp at h; subst h; rw [List.map_cons, it2]
theorem qzd {n : Int} (h : vz n = true) (h0 : 0 ≤ n) : C.OkR ((n.toNat : Nat) : Int) := by
 unfold vz at h
 unfold C.OkR
 have := of_decide_eq_true h
 omega
theorem qeb {t : Dt} : t.d.s.size + t.d.rl.length + 1 ≤ t.tr.bulk := by
 rw [Dt.tr_eta t, vg]
 omega
theorem qla {t : Dt} : t.d.s.size + t.d.rl.length + (t.d.y.q.t1.length + t.d.y.q.q1.length + (t.d.y.q.t2.length + t.d.y.q.q2.length)) + 1 ≤ t.tr.bulk := by
 rw [Dt.tr_eta t, vg]
 omega
theorem zdh {w : World} {y : Nu} (hy : y.nm w) (hl : LenQ y.q) (hs : jx y.q = true) : Calls Tryz.prog 50 #[.agg #[.bool y.q.b1, .slice y.o1 y.q.t1.length y.c1, .slice y.o2 y.q.q1.length y.c2, .bool y.q.b2, .slice y.o3 y.q.t2.length y.c3, .slice y.o4 y.q.q2.length y.c4], .int .i64 10] w fun e w' => e = .returned (.tuple #[.string ⟨(jg 10 y.q).toArray⟩, .int .i64 0]) ∧ Below w.heap.size w w' := zdf hy hl (r := 10) (.inr (.inr (.inl rfl))) hs
theorem zsb {w0 w : World} {gw : Nat} {p v : Value} {pl : Bool} {bs : List UInt8} {T : List Ck} (hp : p = .pointer none ∨ p = .pointer (some ⟨gw, 0, none⟩)) (hM0 : Mg w0 w (.obj gw (.cells #[p, v, .bool pl] 42) :: .row BY 1 v bs.length (Lib.byteCells bs) :: T)) (hT : QT T) {y : Nu} (hy : y.nm w0) (hl : LenQ y.q) (hs : jx y.q = true) (hroom : bs.length + (jg 10 y.q).length ≤ 1000000000) : Calls Tryz.prog 25 #[.pointer (some ⟨gw, 0, none⟩), .agg #[.bool y.q.b1, .slice y.o1 y.q.t1.length y.c1, .slice y.o2 y.q.q1.length y.c2, .bool y.q.b2, .slice y.o3 y.q.t2.length y.c3, .slice y.o4 y.q.q2.length y.c4]] w fun e w' => e = .returned (.tuple #[]) ∧ ∃ v', Mg w0 w' (.obj gw (.cells #[.pointer (some ⟨gw, 0, none⟩), v', .bool pl] 42) :: .row BY 1 v' (bs ++ (jg 10 y.q)).length (Lib.byteCells (bs ++ (jg 10 y.q))) :: T) := by
 have M : Mg w0 w (.obj gw (.cells #[p, v, .bool pl] 42) :: .row BY 1 (v) bs.length ((Lib.byteCells bs)) :: T) := hM0
 refine qm (l := [(0, .pointer (some ⟨gw, 0, none⟩)), (1, .agg #[.bool y.q.b1, .slice y.o1 y.q.t1.length y.c1, .slice y.o2 y.q.q1.length y.c2, .bool y.q.b2, .slice y.o3 y.q.t2.length y.c3, .slice y.o4 y.q.q2.length y.c4])]) Tryz.func25 rfl Tryz.ntmps25 rfl rfl ?_
 intro Q hret hnorm hP a A
 refine wsk fun K1 hK1 => wrl (xa (vs := [.bool y.q.b1, .slice y.o1 y.q.t1.length y.c1, .slice y.o2 y.q.q1.length y.c2, .bool y.q.b2, .slice y.o3 y.q.t2.length y.c3, .slice y.o4 y.q.q2.length y.c4]) (t := 26) A M rfl rfl rfl pg (zb rfl rfl) (by decide) ?_)
 intro g2 w3 M a A
 refine qa (hK1 _ _ (wsk fun K4 hK4 => wrl (sdo A (zn M TwJ_isS_26 rfl 0 rfl (cs := [.bool y.q.b1, .slice y.o1 y.q.t1.length y.c1, .slice y.o2 y.q.q1.length y.c2, .bool y.q.b2, .slice y.o3 y.q.t2.length y.c3, .slice y.o4 y.q.q2.length y.c4]) rfl rfl) λa A↦?_)))
 refine gcl A M (ef rfl rfl) (zdh (Nu.below hy M.bel) hl hs) fun w5 hbx M a A => ?_
 refine sdm A λa A↦?_
 iterate 2 refine sdo A (qp (vs := [.string (⟨(jg 10 y.q).toArray⟩), .int .i64 0]) rfl rfl) λa A↦?_
 iterate 2 refine sda A λa A↦?_
 refine qa (hK4 _ _ (wrl (sdm A λa A↦?_)))
 refine sdo A (qi rfl) λa A↦?_
 refine sdo (v := .pointer (some ⟨gw, 0, none⟩)) A (qb TwJ_fld_42_0 rfl rfl) λa A↦?_
 refine sdm A λa A↦?_
 refine sct A (ef rfl rfl) (ja hp (toW (X := [.obj g2 (.cells #[.bool y.q.b1, .slice y.o1 y.q.t1.length y.c1, .slice y.o2 y.q.q1.length y.c2, .bool y.q.b2, .slice y.o3 y.q.t2.length y.c3, .slice y.o4 y.q.q2.length y.c4] 26)]) M) (s := ⟨(jg 10 y.q).toArray⟩) (by first | omega | (simp only [List.length_append, List.length_cons, List.length_nil]; omega) | (simp only [List.length_append, List.length_cons, List.length_nil, ByteArray.size, List.size_toArray, Array.size]; omega))) ?_
 rintro _ w9 ⟨rfl, v6, hM7⟩
 replace M : Mg w0 w9 (.obj g2 (.cells #[.bool y.q.b1, .slice y.o1 y.q.t1.length y.c1, .slice y.o2 y.q.q1.length y.c2, .bool y.q.b2, .slice y.o3 y.q.t2.length y.c3, .slice y.o4 y.q.q2.length y.c4] 26) :: .obj gw (.cells #[.pointer (some ⟨gw, 0, none⟩), v6, .bool pl] 42) :: .row BY 1 (v6) (((bs ++ (jg 10 y.q))).length) ((Lib.byteCells ((bs ++ (jg 10 y.q))))) :: T) := (qs (X := [.obj g2 (.cells #[.bool y.q.b1, .slice y.o1 y.q.t1.length y.c1, .slice y.o2 y.q.q1.length y.c2, .bool y.q.b2, .slice y.o3 y.q.t2.length y.c3, .slice y.o4 y.q.q2.length y.c4] 26)]) hM7)
 refine ⟨_, rfl, ?_⟩
 intro a A
 refine qa (hnorm _ _ (ji (v := .tuple #[]) A rfl .nil rfl ?_))
 refine ⟨rfl, v6, ?_⟩
 have hM8 := M.sub (L' := _ :: _ :: T) (.cons _ (.cons_cons _ (.cons_cons _ (.refl _))))
 simpa only [List.append_assoc, List.append_nil, List.cons_append, List.nil_append] using hM8
theorem qoa {w0 w : World} {gw : Nat} {p v : Value} {pl : Bool} {bs : List UInt8} {T : List Ck} (hp : p = .pointer none ∨ p = .pointer (some ⟨gw, 0, none⟩)) (hM0 : Mg w0 w (.obj gw (.cells #[p, v, .bool pl] 42) :: .row BY 1 v bs.length (Lib.byteCells bs) :: T)) (hT : QT T) {b : Bool} (hroom : bs.length + 16 ≤ 1000000000) : Calls Tryz.prog 24 #[.pointer (some ⟨gw, 0, none⟩), .bool b] w fun e w' => e = .returned (.tuple #[]) ∧ ∃ v', Mg w0 w' (.obj gw (.cells #[.pointer (some ⟨gw, 0, none⟩), v', .bool pl] 42) :: .row BY 1 v' (bs ++ (if b = true then [35, 116] else [35, 102])).length (Lib.byteCells (bs ++ (if b = true then [35, 116] else [35, 102]))) :: T) := by
 cases b
 ·
  exact quh hp hM0 hT (by simp only [List.length_cons, List.length_nil]; omega)
 ·
  exact qyh hp hM0 hT (by simp only [List.length_cons, List.length_nil]; omega)
theorem zrc {w0 w : World} {gw : Nat} {p v : Value} {pl : Bool} {bs : List UInt8} {T : List Ck} (hp : p = .pointer none ∨ p = .pointer (some ⟨gw, 0, none⟩)) (hM0 : Mg w0 w (.obj gw (.cells #[p, v, .bool pl] 42) :: .row BY 1 v bs.length (Lib.byteCells bs) :: T)) (hT : QT T) {n : Nat} (ih : Writes n) {t : Dt} (ht : t.rd w0) (gt : t.tr.good) (hbn : t.tr.bulk ≤ n) (hz : C.Tz16 w0) (htp : C.Tp10 w0) (hmax : t.tr.bulk ≤ 1048576) (h8 : t.d.k = 8) (hroom : bs.length + (64 * t.tr.bulk) ≤ 1000000000) : Calls Tryz.prog 30 #[.pointer (some ⟨gw, 0, none⟩), .agg (t.d.cells t.ts.length).toArray] w fun e w' => e = .returned (.tuple #[]) ∧ ∃ v', Mg w0 w' (.obj gw (.cells #[.pointer (some ⟨gw, 0, none⟩), v', .bool pl] 42) :: .row BY 1 v' (bs ++ (wrT pl t.tr)).length (Lib.byteCells (bs ++ (wrT pl t.tr))) :: T) := by
 have l2t := (zq gt).1.h8 h8
 obtain ⟨q0, bq0, oq0, iq0, mq0, rq0_, lq0, Hq0⟩ := qgd ht (i := 0) (by omega)
 obtain ⟨q1, bq1, oq1, iq1, mq1, rq1_, lq1, Hq1⟩ := qgd ht (i := 1) (by omega)
 have gq1 := (zq gt).2.2 _ mq1
 have hbq1 := qna mq1
 have hbody : (tlT pl t.tr).drop 1 = wrT pl q0.tr ++ tlT pl q1.tr := by
  rw [qfe h8 l2t iq0 iq1]
  rfl
 have M : Mg w0 w (.obj gw (.cells #[p, v, .bool pl] 42) :: .row BY 1 (v) bs.length ((Lib.byteCells bs)) :: T) := hM0
 refine qm (l := [(0, .pointer (some ⟨gw, 0, none⟩)), (1, .agg (t.d.cells t.ts.length).toArray)]) Tryz.func30 rfl Tryz.ntmps30 rfl rfl ?_
 intro Q hret hnorm hP a A
 refine wsk fun K1 hK1 => wrl (xa (vs := [.int .i64 t.d.k, .int .i64 t.d.n, .bool t.d.y.q.b1, .slice t.d.y.o1 t.d.y.q.t1.length t.d.y.c1, .slice t.d.y.o2 t.d.y.q.q1.length t.d.y.c2, .bool t.d.y.q.b2, .slice t.d.y.o3 t.d.y.q.t2.length t.d.y.c3, .slice t.d.y.o4 t.d.y.q.q2.length t.d.y.c4, .string t.d.s, .slice t.d.ro t.d.rl.length t.d.rc, .slice t.d.lo t.ts.length t.d.lc]) (t := 30) A M rfl rfl rfl pg (zb rfl rfl) (by decide) ?_)
 intro g2 w3 M a A
 refine qa (hK1 _ _ (wsk fun K4 hK4 => wsk fun K5 hK5 => wrl (sdo A (zn M TwJ_isS_30 rfl 0 rfl (cs := [.int .i64 t.d.k, .int .i64 t.d.n, .bool t.d.y.q.b1, .slice t.d.y.o1 t.d.y.q.t1.length t.d.y.c1, .slice t.d.y.o2 t.d.y.q.q1.length t.d.y.c2, .bool t.d.y.q.b2, .slice t.d.y.o3 t.d.y.q.t2.length t.d.y.c3, .slice t.d.y.o4 t.d.y.q.q2.length t.d.y.c4, .string t.d.s, .slice t.d.ro t.d.rl.length t.d.rc, .slice t.d.lo t.ts.length t.d.lc]) rfl rfl) λa A↦?_)))
 rcases tf ((isQ q0.tr && qtT q1.tr)) with hb6 | hb6
 ·
  refine sct A (ef rfl rfl) (qza (p0 := q0) (p1 := q1) l2t gq1 (Dt.keep M.bel _ rq1_) lq0 (Hq0.below M.bel) lq1 (Hq1.below M.bel) hb6) ?_
  rintro _ w7 ⟨c0, ic0, mc0, k8q, l2q, _, rfl, hbq⟩
  have rc0_ := zii rq1_ mc0
  have hbc0 := qna mc0
  replace M := M.call hbq
  refine ⟨_, rfl, ?_⟩
  intro a A
  refine sdm A λa A↦?_
  iterate 2 refine sdo A (qp (vs := [.agg (c0.d.cells c0.ts.length).toArray, .bool true]) rfl rfl) λa A↦?_
  refine xa (vs := [.int .i64 0, .int .i64 0, .bool false, .slice none 0 0, .slice none 0 0, .bool false, .slice none 0 0, .slice none 0 0, .string (⟨#[]⟩), .slice none 0 0, .slice none 0 0]) (t := 30) A M rfl rfl rfl pg (zv (z := .agg #[.int .i64 0, .int .i64 0, .bool false, .slice none 0 0, .slice none 0 0, .bool false, .slice none 0 0, .slice none 0 0, .string (⟨#[]⟩), .slice none 0 0, .slice none 0 0]) (by kernel_rfl) rfl) (by decide) ?_
  intro g8 w9 M a A
  refine qz (us := [.int .i64 c0.d.k, .int .i64 c0.d.n, .bool c0.d.y.q.b1, .slice c0.d.y.o1 c0.d.y.q.t1.length c0.d.y.c1, .slice c0.d.y.o2 c0.d.y.q.q1.length c0.d.y.c2, .bool c0.d.y.q.b2, .slice c0.d.y.o3 c0.d.y.q.t2.length c0.d.y.c3, .slice c0.d.y.o4 c0.d.y.q.q2.length c0.d.y.c4, .string c0.d.s, .slice c0.d.ro c0.d.rl.length c0.d.rc, .slice c0.d.lo c0.ts.length c0.d.lc]) (L' := (.obj g8 (.cells (c0.d.cells c0.ts.length).toArray 30) :: .obj g2 (.cells (t.d.cells t.ts.length).toArray 30) :: .obj gw (.cells #[p, v, .bool pl] 42) :: .row BY 1 (v) bs.length ((Lib.byteCells bs)) :: T)) A M rfl rfl (qw rfl rfl rfl (by kernel_rfl) M 0 rfl rfl rfl) 0 rfl rfl rfl ?_
  intro w10 M
  refine sda A λa A↦?_
  refine qa (hK5 _ _ (wsk fun K11 hK11 => wrl (sdm A λa A↦?_)))
  refine qa (hK11 _ _ (wp_cond_true (A.ev rfl) ?_))
  refine wsk fun K12 hK12 => wrl (sdm A λa A↦?_)
  refine sdo A (qi rfl) λa A↦?_
  refine sdo (v := .pointer (some ⟨gw, 0, none⟩)) A (qb TwJ_fld_42_0 rfl rfl) λa A↦?_
  refine sct A (ef rfl rfl) (zi hp (toW (X := [.obj g8 (.cells (c0.d.cells c0.ts.length).toArray 30), .obj g2 (.cells (t.d.cells t.ts.length).toArray 30)]) M) (.cons (by decide) (.cons (by decide) hT)) (b := 39) (by first | omega | (simp only [List.length_append, List.length_cons, List.length_nil]; omega) | (simp only [List.length_append, List.length_cons, List.length_nil, ByteArray.size, List.size_toArray, Array.size]; omega))) ?_
  rintro _ w16 ⟨rfl, v13, hM14⟩
  replace M : Mg w0 w16 (.obj g8 (.cells (c0.d.cells c0.ts.length).toArray 30) :: .obj g2 (.cells (t.d.cells t.ts.length).toArray 30) :: .obj gw (.cells #[.pointer (some ⟨gw, 0, none⟩), v13, .bool pl] 42) :: .row BY 1 (v13) (((bs ++ ([39]))).length) ((Lib.byteCells ((bs ++ ([39]))))) :: T) := (qs (X := [.obj g8 (.cells (c0.d.cells c0.ts.length).toArray 30), .obj g2 (.cells (t.d.cells t.ts.length).toArray 30)]) hM14)
  refine ⟨_, rfl, ?_⟩
  intro a A
  refine qa (hK12 _ _ (wsk fun K17 hK17 => wrl (sdm A λa A↦?_)))
  refine sdo A (zn M TwJ_isS_30 rfl 0 rfl (cs := [.int .i64 c0.d.k, .int .i64 c0.d.n, .bool c0.d.y.q.b1, .slice c0.d.y.o1 c0.d.y.q.t1.length c0.d.y.c1, .slice c0.d.y.o2 c0.d.y.q.q1.length c0.d.y.c2, .bool c0.d.y.q.b2, .slice c0.d.y.o3 c0.d.y.q.t2.length c0.d.y.c3, .slice c0.d.y.o4 c0.d.y.q.q2.length c0.d.y.c4, .string c0.d.s, .slice c0.d.ro c0.d.rl.length c0.d.rc, .slice c0.d.lo c0.ts.length c0.d.lc]) rfl rfl) λa A↦?_
  refine sct A (ef rfl rfl) (ih (.inr rfl) (toW (X := [.obj g8 (.cells (c0.d.cells c0.ts.length).toArray 30), .obj g2 (.cells (t.d.cells t.ts.length).toArray 30)]) M) (.cons (by decide) (.cons (by decide) hT)) (t := c0) (by skip; omega) rc0_ ((zq gq1).2.2 _ mc0) hz htp (by skip; omega) (by simp only [List.length_append, List.length_cons, List.length_nil]; omega)) ?_
  rintro _ w21 ⟨rfl, v18, hM19⟩
  replace M : Mg w0 w21 (.obj g8 (.cells (c0.d.cells c0.ts.length).toArray 30) :: .obj g2 (.cells (t.d.cells t.ts.length).toArray 30) :: .obj gw (.cells #[.pointer (some ⟨gw, 0, none⟩), v18, .bool pl] 42) :: .row BY 1 (v18) ((((bs ++ ([39])) ++ (wrT pl c0.tr))).length) ((Lib.byteCells (((bs ++ ([39])) ++ (wrT pl c0.tr))))) :: T) := (qs (X := [.obj g8 (.cells (c0.d.cells c0.ts.length).toArray 30), .obj g2 (.cells (t.d.cells t.ts.length).toArray 30)]) hM19)
  refine ⟨_, rfl, ?_⟩
  intro a A
  refine qa (hK17 _ _ (wp_ret (hret _ _ (ji (v := .tuple #[]) A rfl .nil rfl ?_))))
  refine ⟨rfl, v18, ?_⟩
  have hM8 := M.sub (L' := _ :: _ :: T) (.cons _ (.cons _ (.cons_cons _ (.cons_cons _ (.refl _)))))
  rw [show wrT pl t.tr = ([39]) ++ (wrT pl c0.tr) from (by rw [que h8 l2t iq0 iq1 hb6, zij ic0])]
  simpa only [List.append_assoc, List.append_nil, List.cons_append, List.nil_append] using hM8
 ·
  refine gcl A M (ef rfl rfl) (zde (p0 := q0) (p1 := q1) l2t gq1 (Dt.keep M.bel _ rq1_) lq0 (Hq0.below M.bel) lq1 (Hq1.below M.bel) hb6) fun w22 hbq M a A => ?_
  refine sdm A λa A↦?_
  iterate 2 refine sdo A (qp (vs := [.agg #[.int .i64 0, .int .i64 0, .bool false, .slice none 0 0, .slice none 0 0, .bool false, .slice none 0 0, .slice none 0 0, .string (⟨#[]⟩), .slice none 0 0, .slice none 0 0], .bool false]) rfl rfl) λa A↦?_
  refine xa (vs := [.int .i64 0, .int .i64 0, .bool false, .slice none 0 0, .slice none 0 0, .bool false, .slice none 0 0, .slice none 0 0, .string (⟨#[]⟩), .slice none 0 0, .slice none 0 0]) (t := 30) A M rfl rfl rfl pg (zv (z := .agg #[.int .i64 0, .int .i64 0, .bool false, .slice none 0 0, .slice none 0 0, .bool false, .slice none 0 0, .slice none 0 0, .string (⟨#[]⟩), .slice none 0 0, .slice none 0 0]) (by kernel_rfl) rfl) (by decide) ?_
  intro g23 w24 M a A
  refine qz (us := [.int .i64 0, .int .i64 0, .bool false, .slice none 0 0, .slice none 0 0, .bool false, .slice none 0 0, .slice none 0 0, .string (⟨#[]⟩), .slice none 0 0, .slice none 0 0]) (L' := (.obj g23 (.cells #[.int .i64 0, .int .i64 0, .bool false, .slice none 0 0, .slice none 0 0, .bool false, .slice none 0 0, .slice none 0 0, .string (⟨#[]⟩), .slice none 0 0, .slice none 0 0] 30) :: .obj g2 (.cells (t.d.cells t.ts.length).toArray 30) :: .obj gw (.cells #[p, v, .bool pl] 42) :: .row BY 1 (v) bs.length ((Lib.byteCells bs)) :: T)) A M rfl rfl (qw rfl rfl rfl (by kernel_rfl) M 0 rfl rfl rfl) 0 rfl rfl rfl ?_
  intro w25 M
  refine sda A λa A↦?_
  refine qa (hK5 _ _ (wsk fun K26 hK26 => wrl (sdm A λa A↦?_)))
  refine qa (hK26 _ _ (wp_cond_false (A.ev rfl) ?_))
  refine wp_skip (hK4 _ _ (wsk fun K27 hK27 => wrl (sdm A λa A↦?_)))
  refine sdo A (qi rfl) λa A↦?_
  refine sdo (v := .pointer (some ⟨gw, 0, none⟩)) A (qb TwJ_fld_42_0 rfl rfl) λa A↦?_
  refine sct A (ef rfl rfl) (zi hp (toW (X := [.obj g23 (.cells #[.int .i64 0, .int .i64 0, .bool false, .slice none 0 0, .slice none 0 0, .bool false, .slice none 0 0, .slice none 0 0, .string (⟨#[]⟩), .slice none 0 0, .slice none 0 0] 30), .obj g2 (.cells (t.d.cells t.ts.length).toArray 30)]) M) (.cons (by decide) (.cons (by decide) hT)) (b := 40) (by first | omega | (simp only [List.length_append, List.length_cons, List.length_nil]; omega) | (simp only [List.length_append, List.length_cons, List.length_nil, ByteArray.size, List.size_toArray, Array.size]; omega))) ?_
  rintro _ w31 ⟨rfl, v28, hM29⟩
  replace M : Mg w0 w31 (.obj g23 (.cells #[.int .i64 0, .int .i64 0, .bool false, .slice none 0 0, .slice none 0 0, .bool false, .slice none 0 0, .slice none 0 0, .string (⟨#[]⟩), .slice none 0 0, .slice none 0 0] 30) :: .obj g2 (.cells (t.d.cells t.ts.length).toArray 30) :: .obj gw (.cells #[.pointer (some ⟨gw, 0, none⟩), v28, .bool pl] 42) :: .row BY 1 (v28) (((bs ++ ([40]))).length) ((Lib.byteCells ((bs ++ ([40]))))) :: T) := (qs (X := [.obj g23 (.cells #[.int .i64 0, .int .i64 0, .bool false, .slice none 0 0, .slice none 0 0, .bool false, .slice none 0 0, .slice none 0 0, .string (⟨#[]⟩), .slice none 0 0, .slice none 0 0] 30), .obj g2 (.cells (t.d.cells t.ts.length).toArray 30)]) hM29)
  refine ⟨_, rfl, ?_⟩
  intro a A
  refine qa (hK27 _ _ (wsk fun K32 hK32 => wsk fun K33 hK33 => wrl (sda A λa A↦?_)))
  refine qa (hK33 _ _ (wp_block ?_))
  replace M : Mg w0 w31 (.obj g2 (.cells (t.d.cells t.ts.length).toArray 30) :: .obj gw (.cells #[.pointer (some ⟨gw, 0, none⟩), v28, .bool pl] 42) :: .row BY 1 (v28) (((bs ++ ([40]))).length) ((Lib.byteCells ((bs ++ ([40]))))) :: T) := by
   have h9 := M.sub (.cons _ (.cons_cons _ (.cons_cons _ (.cons_cons _ (.refl _)))))
   exact h9
  replace M : Mg w0 w31 (.obj g2 (.cells (t.d.cells t.ts.length).toArray 30) :: .obj gw (.cells #[.pointer (some ⟨gw, 0, none⟩), v28, .bool pl] 42) :: .row BY 1 (v28) ((((bs ++ [40]) ++ [])).length) ((Lib.byteCells (((bs ++ [40]) ++ [])))) :: T) := by
   have h9 := M
   simp only [List.append_assoc, List.append_nil, List.nil_append] at h9 ⊢
   exact h9
  refine zt (fun m_ a w1 => ∃ (i : Nat) (p : Dt) (acc : List UInt8) (vo : Value), m_ = 1 + p.tr.bulk ∧ (p.rd w0 ∧ p.tr.good ∧ (i = 0 → p = t) ∧ (0 < i → acc.length + 64 * p.tr.bulk + 48 ≤ 64 * t.tr.bulk) ∧ acc.length + 64 * p.tr.bulk ≤ 64 * t.tr.bulk ∧ i + p.tr.bulk ≤ t.tr.bulk ∧ acc ++ (tlT pl p.tr).drop (if i = 0 then 1 else 0) = (tlT pl t.tr).drop 1) ∧ Sl a 56 [(0, .pointer (some ⟨gw, 0, none⟩)), (1, .agg (t.d.cells t.ts.length).toArray), (3, .pointer (some ⟨g2, 0, none⟩)), (4, .pointer (some ⟨g23, 0, none⟩)), (5, .bool false), (6, .int .i64 (((i : Nat) : Int))), (7, .tuple #[.agg #[.int .i64 0, .int .i64 0, .bool false, .slice none 0 0, .slice none 0 0, .bool false, .slice none 0 0, .slice none 0 0, .string (⟨#[]⟩), .slice none 0 0, .slice none 0 0], .bool false]), (8, .agg (t.d.cells t.ts.length).toArray), (9, .tuple #[.agg #[.int .i64 0, .int .i64 0, .bool false, .slice none 0 0, .slice none 0 0, .bool false, .slice none 0 0, .slice none 0 0, .string (⟨#[]⟩), .slice none 0 0, .slice none 0 0], .bool false]), (10, .agg #[.int .i64 0, .int .i64 0, .bool false, .slice none 0 0, .slice none 0 0, .bool false, .slice none 0 0, .slice none 0 0, .string (⟨#[]⟩), .slice none 0 0, .slice none 0 0]), (11, .bool false), (12, .bool false), (20, .pointer (some ⟨gw, 0, none⟩)), (21, .pointer (some ⟨gw, 0, none⟩)), (22, .pointer (some ⟨gw, 0, none⟩)), (23, .nilIface)] ∧ Mg w0 w1 (.obj g2 (.cells (p.d.cells p.ts.length).toArray 30) :: .obj gw (.cells #[.pointer (some ⟨gw, 0, none⟩), vo, .bool pl] 42) :: .row BY 1 (vo) (((bs ++ [40]) ++ acc).length) ((Lib.byteCells ((bs ++ [40]) ++ acc))) :: T)) _ ⟨0, t, [], v28, rfl, ⟨ht, gt, fun _ => rfl, fun h => absurd h (Nat.lt_irrefl _), by rw [List.length_nil]; omega, by omega, by rw [if_pos rfl, List.nil_append]⟩, A.keep _ ⟨rfl, rfl, rfl, rfl, rfl, rfl, rfl, rfl, rfl, rfl, rfl, rfl, rfl, rfl, rfl, rfl, trivial⟩, M⟩ ?_
  clear M A
  rintro m_ a w34 ⟨i, p, acc, vo, rfl, hinv36, A, M⟩ K35 hK35
  obtain ⟨hp_, gp, hpt, hlen, ha9, hib, hin9⟩ := hinv36
  refine wsk fun K37 hK37 => wsk fun K38 hK38 => wrl (sdo (v := .pointer (some ⟨g2, 0, none⟩)) A (qb TwJ_fld_30_0 rfl rfl) λa A↦?_)
  refine sdo A (qk M TwJ_is1_3 rfl 0 rfl rfl) λa A↦?_
  rcases tf ((p.d.k == 8)) with hb39 | hb39
  ·
   have hb39' := eq_of_beq hb39
   refine sdc A qg hb39 λa A↦?_
   refine qa (hK38 _ _ (wp_cond_true (A.ev rfl) ?_))
   refine wp_skip (hK37 _ _ (wsk fun K40 hK40 => wp_block (wsk fun K41 hK41 => wrl ?_)))
   iterate 2 refine sdm A λa A↦?_
   rcases tf (decide (i = 0)) with hb42 | hb42
   ·
    have hb42' := of_decide_eq_true hb42
    refine sct A (ef rfl rfl) ((show Calls Tryz.prog 60 #[.pointer (some ⟨gw, 0, none⟩), .int .i64 ((i : Nat) : Int)] _ _ from by rw [hb42']; exact zic (toW (X := [.obj g2 (.cells (p.d.cells p.ts.length).toArray 30)]) M))) ?_
    rintro _ w44 ⟨rfl, hM43⟩
    replace M : Mg w0 w44 (.obj g2 (.cells (p.d.cells p.ts.length).toArray 30) :: .obj gw (.cells #[.pointer (some ⟨gw, 0, none⟩), vo, .bool pl] 42) :: .row BY 1 (vo) (((bs ++ [40]) ++ acc).length) ((Lib.byteCells ((bs ++ [40]) ++ acc))) :: T) := (qs (X := [.obj g2 (.cells (p.d.cells p.ts.length).toArray 30)]) hM43)
    refine ⟨_, rfl, ?_⟩
    intro a A
    refine qa (hK41 _ _ (wsk fun K45 hK45 => ?_))
    have l2p := (zq gp).1.h8 hb39'
    obtain ⟨p0, bp0, op0, ip0, mp0, rp0_, lp0, Hp0⟩ := qgd hp_ (i := 0) (by omega)
    obtain ⟨p1, bp1, op1, ip1, mp1, rp1_, lp1, Hp1⟩ := qgd hp_ (i := 1) (by omega)
    have hbp := qbi l2p ip0 ip1
    have hw9 := (qba pl p0.tr ((zq gp).2.2 _ mp0)).1
    have htl := qfe (pl := pl) hb39' l2p ip0 ip1
    refine wrl (sdm A λa A↦?_)
    refine sdo (v := .pointer (some ⟨g2, 10, none⟩)) A (qb TwJ_fld_30_5 rfl rfl) λa A↦?_
    refine sdo A (qk M TwJ_is1_28 rfl 0 rfl rfl) λa A↦?_
    refine sdo (v := .pointer (some ⟨bp0, op0 + 0 * 11, none⟩)) A (zk (k := 0) Tryz.underlying28 (by kernel_rfl) rfl rfl rfl lp0 (by omega)) λa A↦?_
    refine sdo A (jt M Hp0 TwJ_isS_30 rfl rfl) λa A↦?_
    refine sct A (ef rfl rfl) (ih (.inr rfl) (toW (X := [.obj g2 (.cells (p.d.cells p.ts.length).toArray 30)]) M) (.cons (by decide) hT) (t := p0) (by skip; omega) rp0_ ((zq gp).2.2 _ mp0) hz htp (by skip; omega) (by simp only [List.length_append, List.length_cons, List.length_nil]; omega)) ?_
    rintro _ w49 ⟨rfl, v46, hM47⟩
    replace M : Mg w0 w49 (.obj g2 (.cells (p.d.cells p.ts.length).toArray 30) :: .obj gw (.cells #[.pointer (some ⟨gw, 0, none⟩), v46, .bool pl] 42) :: .row BY 1 (v46) (((((bs ++ [40]) ++ acc) ++ (wrT pl p0.tr))).length) ((Lib.byteCells ((((bs ++ [40]) ++ acc) ++ (wrT pl p0.tr))))) :: T) := (qs (X := [.obj g2 (.cells (p.d.cells p.ts.length).toArray 30)]) hM47)
    refine ⟨_, rfl, ?_⟩
    intro a A
    refine qa (hK45 _ _ (wrl (sdo (v := .pointer (some ⟨g2, 10, none⟩)) A (qb TwJ_fld_30_5 rfl rfl) λa A↦?_)))
    refine sdo A (qk M TwJ_is1_28 rfl 0 rfl rfl) λa A↦?_
    refine sdo (v := .pointer (some ⟨bp1, op1 + 1 * 11, none⟩)) A (zk (k := 1) Tryz.underlying28 (by kernel_rfl) rfl rfl rfl lp1 (by omega)) λa A↦?_
    refine sdo A (jt M Hp1 TwJ_isS_30 rfl rfl) λa A↦?_
    refine qz (us := [.int .i64 p1.d.k, .int .i64 p1.d.n, .bool p1.d.y.q.b1, .slice p1.d.y.o1 p1.d.y.q.t1.length p1.d.y.c1, .slice p1.d.y.o2 p1.d.y.q.q1.length p1.d.y.c2, .bool p1.d.y.q.b2, .slice p1.d.y.o3 p1.d.y.q.t2.length p1.d.y.c3, .slice p1.d.y.o4 p1.d.y.q.q2.length p1.d.y.c4, .string p1.d.s, .slice p1.d.ro p1.d.rl.length p1.d.rc, .slice p1.d.lo p1.ts.length p1.d.lc]) (L' := (.obj g2 (.cells (p1.d.cells p1.ts.length).toArray 30) :: .obj gw (.cells #[.pointer (some ⟨gw, 0, none⟩), v46, .bool pl] 42) :: .row BY 1 (v46) (((((bs ++ [40]) ++ acc) ++ (wrT pl p0.tr))).length) ((Lib.byteCells ((((bs ++ [40]) ++ acc) ++ (wrT pl p0.tr))))) :: T)) A M rfl rfl (qw rfl rfl rfl (by kernel_rfl) M 0 rfl rfl rfl) 0 rfl rfl rfl ?_
    intro w50 M
    refine qa (hK40 _ _ (wrl (sdm A λa A↦?_)))
    refine sdo (v := .int .i64 (((i + 1 : Nat) : Int))) A (qe rfl rfl (fun w => (zx (jw (by omega) (by omega)) w).trans (by rw [show (((i : Nat) : Int) + 1 : Int) = ((i + 1 : Nat) : Int) from by omega]))) λa A↦?_
    refine sda A λa A↦?_
    refine qa ?_
    replace M : Mg w0 w50 (.obj g2 (.cells (p1.d.cells p1.ts.length).toArray 30) :: .obj gw (.cells #[.pointer (some ⟨gw, 0, none⟩), v46, .bool pl] 42) :: .row BY 1 (v46) ((((bs ++ [40]) ++ (acc ++ ([] ++ wrT pl p0.tr)))).length) ((Lib.byteCells (((bs ++ [40]) ++ (acc ++ ([] ++ wrT pl p0.tr)))))) :: T) := by
     have h9 := M
     simp only [List.append_assoc, List.append_nil, List.nil_append] at h9 ⊢
     exact h9
    refine hK35 _ _ _ (by omega) ⟨i + 1, p1, acc ++ ([] ++ wrT pl p0.tr), v46, rfl, ⟨rp1_, (zq gp).2.2 _ mp1, fun h => by omega, fun _ => by simp only [List.length_append, List.length_cons, List.length_nil]; omega, by simp only [List.length_append, List.length_cons, List.length_nil]; omega, by omega, by rw [← hin9, if_neg (show ¬ i + 1 = 0 by omega), if_pos hb42', htl, List.drop_zero]; simp only [List.append_assoc, List.cons_append, List.nil_append, List.drop_succ_cons, List.drop_zero]⟩, A.keep _ ⟨rfl, rfl, rfl, rfl, rfl, rfl, rfl, rfl, rfl, rfl, rfl, rfl, rfl, rfl, rfl, rfl, trivial⟩, M⟩
   ·
    have hb42' := of_decide_eq_false hb42
    refine sct A (ef rfl rfl) (zid (.inr rfl) (toW (X := [.obj g2 (.cells (p.d.cells p.ts.length).toArray 30)]) M) (.cons (by decide) hT) (i := ((i : Nat) : Int)) (by omega) (by first | omega | (simp only [List.length_append, List.length_cons, List.length_nil]; omega) | (simp only [List.length_append, List.length_cons, List.length_nil, ByteArray.size, List.size_toArray, Array.size]; omega))) ?_
    rintro _ w54 ⟨rfl, v51, hM52⟩
    replace M : Mg w0 w54 (.obj g2 (.cells (p.d.cells p.ts.length).toArray 30) :: .obj gw (.cells #[.pointer (some ⟨gw, 0, none⟩), v51, .bool pl] 42) :: .row BY 1 (v51) (((((bs ++ [40]) ++ acc) ++ ([32]))).length) ((Lib.byteCells ((((bs ++ [40]) ++ acc) ++ ([32]))))) :: T) := (qs (X := [.obj g2 (.cells (p.d.cells p.ts.length).toArray 30)]) hM52)
    refine ⟨_, rfl, ?_⟩
    intro a A
    refine qa (hK41 _ _ (wsk fun K55 hK55 => ?_))
    have l2p := (zq gp).1.h8 hb39'
    obtain ⟨p0, bp0, op0, ip0, mp0, rp0_, lp0, Hp0⟩ := qgd hp_ (i := 0) (by omega)
    obtain ⟨p1, bp1, op1, ip1, mp1, rp1_, lp1, Hp1⟩ := qgd hp_ (i := 1) (by omega)
    have hbp := qbi l2p ip0 ip1
    have hw9 := (qba pl p0.tr ((zq gp).2.2 _ mp0)).1
    have htl := qfe (pl := pl) hb39' l2p ip0 ip1
    refine wrl (sdm A λa A↦?_)
    refine sdo (v := .pointer (some ⟨g2, 10, none⟩)) A (qb TwJ_fld_30_5 rfl rfl) λa A↦?_
    refine sdo A (qk M TwJ_is1_28 rfl 0 rfl rfl) λa A↦?_
    refine sdo (v := .pointer (some ⟨bp0, op0 + 0 * 11, none⟩)) A (zk (k := 0) Tryz.underlying28 (by kernel_rfl) rfl rfl rfl lp0 (by omega)) λa A↦?_
    refine sdo A (jt M Hp0 TwJ_isS_30 rfl rfl) λa A↦?_
    refine sct A (ef rfl rfl) (ih (.inr rfl) (toW (X := [.obj g2 (.cells (p.d.cells p.ts.length).toArray 30)]) M) (.cons (by decide) hT) (t := p0) (by skip; omega) rp0_ ((zq gp).2.2 _ mp0) hz htp (by skip; omega) (by simp only [List.length_append, List.length_cons, List.length_nil]; omega)) ?_
    rintro _ w59 ⟨rfl, v56, hM57⟩
    replace M : Mg w0 w59 (.obj g2 (.cells (p.d.cells p.ts.length).toArray 30) :: .obj gw (.cells #[.pointer (some ⟨gw, 0, none⟩), v56, .bool pl] 42) :: .row BY 1 (v56) ((((((bs ++ [40]) ++ acc) ++ ([32])) ++ (wrT pl p0.tr))).length) ((Lib.byteCells (((((bs ++ [40]) ++ acc) ++ ([32])) ++ (wrT pl p0.tr))))) :: T) := (qs (X := [.obj g2 (.cells (p.d.cells p.ts.length).toArray 30)]) hM57)
    refine ⟨_, rfl, ?_⟩
    intro a A
    refine qa (hK55 _ _ (wrl (sdo (v := .pointer (some ⟨g2, 10, none⟩)) A (qb TwJ_fld_30_5 rfl rfl) λa A↦?_)))
    refine sdo A (qk M TwJ_is1_28 rfl 0 rfl rfl) λa A↦?_
    refine sdo (v := .pointer (some ⟨bp1, op1 + 1 * 11, none⟩)) A (zk (k := 1) Tryz.underlying28 (by kernel_rfl) rfl rfl rfl lp1 (by omega)) λa A↦?_
    refine sdo A (jt M Hp1 TwJ_isS_30 rfl rfl) λa A↦?_
    refine qz (us := [.int .i64 p1.d.k, .int .i64 p1.d.n, .bool p1.d.y.q.b1, .slice p1.d.y.o1 p1.d.y.q.t1.length p1.d.y.c1, .slice p1.d.y.o2 p1.d.y.q.q1.length p1.d.y.c2, .bool p1.d.y.q.b2, .slice p1.d.y.o3 p1.d.y.q.t2.length p1.d.y.c3, .slice p1.d.y.o4 p1.d.y.q.q2.length p1.d.y.c4, .string p1.d.s, .slice p1.d.ro p1.d.rl.length p1.d.rc, .slice p1.d.lo p1.ts.length p1.d.lc]) (L' := (.obj g2 (.cells (p1.d.cells p1.ts.length).toArray 30) :: .obj gw (.cells #[.pointer (some ⟨gw, 0, none⟩), v56, .bool pl] 42) :: .row BY 1 (v56) ((((((bs ++ [40]) ++ acc) ++ ([32])) ++ (wrT pl p0.tr))).length) ((Lib.byteCells (((((bs ++ [40]) ++ acc) ++ ([32])) ++ (wrT pl p0.tr))))) :: T)) A M rfl rfl (qw rfl rfl rfl (by kernel_rfl) M 0 rfl rfl rfl) 0 rfl rfl rfl ?_
    intro w60 M
    refine qa (hK40 _ _ (wrl (sdm A λa A↦?_)))
    refine sdo (v := .int .i64 (((i + 1 : Nat) : Int))) A (qe rfl rfl (fun w => (zx (jw (by omega) (by omega)) w).trans (by rw [show (((i : Nat) : Int) + 1 : Int) = ((i + 1 : Nat) : Int) from by omega]))) λa A↦?_
    refine sda A λa A↦?_
    refine qa ?_
    replace M : Mg w0 w60 (.obj g2 (.cells (p1.d.cells p1.ts.length).toArray 30) :: .obj gw (.cells #[.pointer (some ⟨gw, 0, none⟩), v56, .bool pl] 42) :: .row BY 1 (v56) ((((bs ++ [40]) ++ (acc ++ ([32] ++ wrT pl p0.tr)))).length) ((Lib.byteCells (((bs ++ [40]) ++ (acc ++ ([32] ++ wrT pl p0.tr)))))) :: T) := by
     have h9 := M
     simp only [List.append_assoc, List.append_nil, List.nil_append] at h9 ⊢
     exact h9
    refine hK35 _ _ _ (by omega) ⟨i + 1, p1, acc ++ ([32] ++ wrT pl p0.tr), v56, rfl, ⟨rp1_, (zq gp).2.2 _ mp1, fun h => by omega, fun _ => by simp only [List.length_append, List.length_cons, List.length_nil]; omega, by simp only [List.length_append, List.length_cons, List.length_nil]; omega, by omega, by rw [← hin9, if_neg (show ¬ i + 1 = 0 by omega), if_neg hb42', htl, List.drop_zero]; simp only [List.append_assoc, List.cons_append, List.nil_append, List.drop_succ_cons, List.drop_zero]⟩, A.keep _ ⟨rfl, rfl, rfl, rfl, rfl, rfl, rfl, rfl, rfl, rfl, rfl, rfl, rfl, rfl, rfl, rfl, trivial⟩, M⟩
  ·
   have hb39' := ne_of_beq_false hb39
   refine sdc A qg hb39 λa A↦?_
   refine qa (hK38 _ _ (wp_cond_false (A.ev rfl) ?_))
   refine wp_exit (hK32 _ _ (wsk fun K61 hK61 => wsk fun K62 hK62 => ?_))
   have hi9 : i ≠ 0 := fun e => hb39' (by rw [hpt e]; exact h8)
   have hi8 := hlen (by omega)
   have hw8 := (qba pl p.tr gp).1
   refine wrl (sdo (v := .pointer (some ⟨g2, 0, none⟩)) A (qb TwJ_fld_30_0 rfl rfl) λa A↦?_)
   refine sdo A (qk M TwJ_is1_3 rfl 0 rfl rfl) λa A↦?_
   rcases tf ((p.d.k != 1)) with hb63 | hb63
   ·
    have hb63' := bne_iff_ne.1 hb63
    refine sdc A zw hb63 λa A↦?_
    refine qa (hK62 _ _ (wp_cond_true (A.ev rfl) ?_))
    refine wsk fun K64 hK64 => wrl (sdm A λa A↦?_)
    refine sdo A (qi rfl) λa A↦?_
    refine sdo (v := .pointer (some ⟨gw, 0, none⟩)) A (qb TwJ_fld_42_0 rfl rfl) λa A↦?_
    refine sct A (ef rfl rfl) (ja (.inr rfl) (toW (X := [.obj g2 (.cells (p.d.cells p.ts.length).toArray 30)]) M) (s := ⟨#[32, 46, 32]⟩) (by first | omega | (simp only [List.length_append, List.length_cons, List.length_nil]; omega) | (simp only [List.length_append, List.length_cons, List.length_nil, ByteArray.size, List.size_toArray, Array.size]; omega))) ?_
    rintro _ w68 ⟨rfl, v65, hM66⟩
    replace M : Mg w0 w68 (.obj g2 (.cells (p.d.cells p.ts.length).toArray 30) :: .obj gw (.cells #[.pointer (some ⟨gw, 0, none⟩), v65, .bool pl] 42) :: .row BY 1 (v65) (((((bs ++ [40]) ++ acc) ++ ([32, 46, 32]))).length) ((Lib.byteCells ((((bs ++ [40]) ++ acc) ++ ([32, 46, 32]))))) :: T) := (qs (X := [.obj g2 (.cells (p.d.cells p.ts.length).toArray 30)]) hM66)
    refine ⟨_, rfl, ?_⟩
    intro a A
    refine qa (hK64 _ _ (wrl (sdm A λa A↦?_)))
    refine sdo A (zn M TwJ_isS_30 rfl 0 rfl (cs := [.int .i64 p.d.k, .int .i64 p.d.n, .bool p.d.y.q.b1, .slice p.d.y.o1 p.d.y.q.t1.length p.d.y.c1, .slice p.d.y.o2 p.d.y.q.q1.length p.d.y.c2, .bool p.d.y.q.b2, .slice p.d.y.o3 p.d.y.q.t2.length p.d.y.c3, .slice p.d.y.o4 p.d.y.q.q2.length p.d.y.c4, .string p.d.s, .slice p.d.ro p.d.rl.length p.d.rc, .slice p.d.lo p.ts.length p.d.lc]) rfl rfl) λa A↦?_
    refine sct A (ef rfl rfl) (ih (.inr rfl) (toW (X := [.obj g2 (.cells (p.d.cells p.ts.length).toArray 30)]) M) (.cons (by decide) hT) (t := p) (by skip; omega) hp_ gp hz htp (by skip; omega) (by simp only [List.length_append, List.length_cons, List.length_nil]; omega)) ?_
    rintro _ w72 ⟨rfl, v69, hM70⟩
    replace M : Mg w0 w72 (.obj g2 (.cells (p.d.cells p.ts.length).toArray 30) :: .obj gw (.cells #[.pointer (some ⟨gw, 0, none⟩), v69, .bool pl] 42) :: .row BY 1 (v69) ((((((bs ++ [40]) ++ acc) ++ ([32, 46, 32])) ++ (wrT pl p.tr))).length) ((Lib.byteCells (((((bs ++ [40]) ++ acc) ++ ([32, 46, 32])) ++ (wrT pl p.tr))))) :: T) := (qs (X := [.obj g2 (.cells (p.d.cells p.ts.length).toArray 30)]) hM70)
    refine ⟨_, rfl, ?_⟩
    intro a A
    refine qa (hK61 _ _ (wrl (sdm A λa A↦?_)))
    refine sdo A (qi rfl) λa A↦?_
    refine sdo (v := .pointer (some ⟨gw, 0, none⟩)) A (qb TwJ_fld_42_0 rfl rfl) λa A↦?_
    refine sct A (ef rfl rfl) (zi (.inr rfl) (toW (X := [.obj g2 (.cells (p.d.cells p.ts.length).toArray 30)]) M) (.cons (by decide) hT) (b := 41) (by first | omega | (simp only [List.length_append, List.length_cons, List.length_nil]; omega) | (simp only [List.length_append, List.length_cons, List.length_nil, ByteArray.size, List.size_toArray, Array.size]; omega))) ?_
    rintro _ w76 ⟨rfl, v73, hM74⟩
    replace M : Mg w0 w76 (.obj g2 (.cells (p.d.cells p.ts.length).toArray 30) :: .obj gw (.cells #[.pointer (some ⟨gw, 0, none⟩), v73, .bool pl] 42) :: .row BY 1 (v73) (((((((bs ++ [40]) ++ acc) ++ ([32, 46, 32])) ++ (wrT pl p.tr)) ++ ([41]))).length) ((Lib.byteCells ((((((bs ++ [40]) ++ acc) ++ ([32, 46, 32])) ++ (wrT pl p.tr)) ++ ([41]))))) :: T) := (qs (X := [.obj g2 (.cells (p.d.cells p.ts.length).toArray 30)]) hM74)
    refine ⟨_, rfl, ?_⟩
    intro a A
    refine qa (hnorm _ _ (ji (v := .tuple #[]) A rfl .nil rfl ?_))
    refine ⟨rfl, v73, ?_⟩
    have hM8 := M.sub (L' := _ :: _ :: T) (.cons _ (.cons_cons _ (.cons_cons _ (.refl _))))
    rw [show wrT pl t.tr = ([40]) ++ (acc ++ (([32, 46, 32]) ++ ((wrT pl p.tr) ++ ([41])))) from (by rw [qrf h8 l2t iq0 iq1 hb6, ← hbody, ← hin9, if_neg hi9, List.drop_zero, zhb hb39' hb63']; simp only [List.append_assoc, List.append_nil, List.cons_append, List.nil_append])]
    simpa only [List.append_assoc, List.append_nil, List.cons_append, List.nil_append] using hM8
   ·
    have hb63' := bne_eq_false_iff_eq.1 hb63
    refine sdc A zw hb63 λa A↦?_
    refine qa (hK62 _ _ (wp_cond_false (A.ev rfl) ?_))
    refine wp_skip (hK61 _ _ (wrl (sdm A λa A↦?_)))
    refine sdo A (qi rfl) λa A↦?_
    refine sdo (v := .pointer (some ⟨gw, 0, none⟩)) A (qb TwJ_fld_42_0 rfl rfl) λa A↦?_
    refine sct A (ef rfl rfl) (zi (.inr rfl) (toW (X := [.obj g2 (.cells (p.d.cells p.ts.length).toArray 30)]) M) (.cons (by decide) hT) (b := 41) (by first | omega | (simp only [List.length_append, List.length_cons, List.length_nil]; omega) | (simp only [List.length_append, List.length_cons, List.length_nil, ByteArray.size, List.size_toArray, Array.size]; omega))) ?_
    rintro _ w80 ⟨rfl, v77, hM78⟩
    replace M : Mg w0 w80 (.obj g2 (.cells (p.d.cells p.ts.length).toArray 30) :: .obj gw (.cells #[.pointer (some ⟨gw, 0, none⟩), v77, .bool pl] 42) :: .row BY 1 (v77) (((((bs ++ [40]) ++ acc) ++ ([41]))).length) ((Lib.byteCells ((((bs ++ [40]) ++ acc) ++ ([41]))))) :: T) := (qs (X := [.obj g2 (.cells (p.d.cells p.ts.length).toArray 30)]) hM78)
    refine ⟨_, rfl, ?_⟩
    intro a A
    refine qa (hnorm _ _ (ji (v := .tuple #[]) A rfl .nil rfl ?_))
    refine ⟨rfl, v77, ?_⟩
    have hM8 := M.sub (L' := _ :: _ :: T) (.cons _ (.cons_cons _ (.cons_cons _ (.refl _))))
    rw [show wrT pl t.tr = ([40]) ++ (acc ++ ([41])) from (by rw [qrf h8 l2t iq0 iq1 hb6, ← hbody, ← hin9, if_neg hi9, List.drop_zero, zha hb63']; simp only [List.append_assoc, List.append_nil, List.cons_append, List.nil_append])]
    simpa only [List.append_assoc, List.append_nil, List.cons_append, List.nil_append] using hM8
theorem qvc {n : Nat} (ih : Writes n) : Writes (n + 1) := by
 intro w0 w gw p v pl bs T t hp hM0 hT hn ht gt hz htp hmax hroom
 have hk0 := (zq gt).1.h0
 have hk1 := (zq gt).1.h1
 have hn9 := zfb (zq gt).1
 have hbp9 := qeb (t := t)
 have hbw9 := qla (t := t)
 have hsl := zf t.d.s
 have M : Mg w0 w (.obj gw (.cells #[p, v, .bool pl] 42) :: .row BY 1 (v) bs.length ((Lib.byteCells bs)) :: T) := hM0
 refine qm (l := [(0, .pointer (some ⟨gw, 0, none⟩)), (1, .agg (t.d.cells t.ts.length).toArray)]) Tryz.func12 rfl Tryz.ntmps12 rfl rfl ?_
 intro Q hret hnorm hP a A
 refine wsk fun K1 hK1 => wrl (xa (vs := [.int .i64 t.d.k, .int .i64 t.d.n, .bool t.d.y.q.b1, .slice t.d.y.o1 t.d.y.q.t1.length t.d.y.c1, .slice t.d.y.o2 t.d.y.q.q1.length t.d.y.c2, .bool t.d.y.q.b2, .slice t.d.y.o3 t.d.y.q.t2.length t.d.y.c3, .slice t.d.y.o4 t.d.y.q.q2.length t.d.y.c4, .string t.d.s, .slice t.d.ro t.d.rl.length t.d.rc, .slice t.d.lo t.ts.length t.d.lc]) (t := 30) A M rfl rfl rfl pg (zb rfl rfl) (by decide) ?_)
 intro g2 w3 M a A
 refine qa (hK1 _ _ (wsk fun K4 hK4 => wrl (sdo (v := .pointer (some ⟨g2, 0, none⟩)) A (qb TwJ_fld_30_0 rfl rfl) λa A↦?_)))
 refine sdo A (qk M TwJ_is1_3 rfl 0 rfl rfl) λa A↦?_
 refine qa (hK4 _ _ (wp_block (wsk fun K5 hK5 => wrl ?_)))
 rcases tf ((t.d.k == 1)) with hb6 | hb6
 ·
  have hb6' := eq_of_beq hb6
  refine sdc A qg hb6 λa A↦?_
  refine sda A λa A↦?_
  refine qa (hK5 _ _ (wp_cond_true (A.ev rfl) ?_))
  refine wrl (sdm A λa A↦?_)
  refine sdo A (qi rfl) λa A↦?_
  refine sdo (v := .pointer (some ⟨gw, 0, none⟩)) A (qb TwJ_fld_42_0 rfl rfl) λa A↦?_
  refine sct A (ef rfl rfl) (ja hp (toW (X := [.obj g2 (.cells (t.d.cells t.ts.length).toArray 30)]) M) (s := ⟨#[40, 41]⟩) (by first | omega | (simp only [List.length_append, List.length_cons, List.length_nil]; omega) | (simp only [List.length_append, List.length_cons, List.length_nil, ByteArray.size, List.size_toArray, Array.size]; omega))) ?_
  rintro _ w10 ⟨rfl, v7, hM8⟩
  replace M : Mg w0 w10 (.obj g2 (.cells (t.d.cells t.ts.length).toArray 30) :: .obj gw (.cells #[.pointer (some ⟨gw, 0, none⟩), v7, .bool pl] 42) :: .row BY 1 (v7) (((bs ++ ([40, 41]))).length) ((Lib.byteCells ((bs ++ ([40, 41]))))) :: T) := (qs (X := [.obj g2 (.cells (t.d.cells t.ts.length).toArray 30)]) hM8)
  refine ⟨_, rfl, ?_⟩
  intro a A
  refine qa (hnorm _ _ (ji (v := .tuple #[]) A rfl .nil rfl ?_))
  refine ⟨rfl, v7, ?_⟩
  have hM8 := M.sub (L' := _ :: _ :: T) (.cons _ (.cons_cons _ (.cons_cons _ (.refl _))))
  rw [show wrT pl t.tr = ([40, 41]) from (by
   rw [kx, if_neg (by omega), if_neg (by omega)]
   unfold xd
   repeat (first | rw [if_pos (by omega)] | rw [if_neg (by omega)])
   try rfl
   try simp only [beq_iff_eq])]
  simpa only [List.append_assoc, List.append_nil, List.cons_append, List.nil_append] using hM8
 ·
  have hb6' := ne_of_beq_false hb6
  refine sdc A qg hb6 λa A↦?_
  refine sda A λa A↦?_
  refine qa (hK5 _ _ (wp_cond_false (A.ev rfl) ?_))
  refine wsk fun K11 hK11 => wrl ?_
  rcases tf ((t.d.k == 2)) with hb12 | hb12
  ·
   have hb12' := eq_of_beq hb12
   refine sdc A qg hb12 λa A↦?_
   refine sda A λa A↦?_
   refine qa (hK11 _ _ (wp_cond_true (A.ev rfl) ?_))
   refine wrl (sdm A λa A↦?_)
   refine sdo (v := .pointer (some ⟨g2, 1, none⟩)) A (qb TwJ_fld_30_1 rfl rfl) λa A↦?_
   refine sdo A (qk M TwJ_is1_3 rfl 0 rfl rfl) λa A↦?_
   rcases tf ((t.d.n == 1)) with hb13 | hb13
   ·
    have hb13' := eq_of_beq hb13
    refine sdc A qg hb13 λa A↦?_
    refine sct A (ef rfl rfl) (qoa hp (toW (X := [.obj g2 (.cells (t.d.cells t.ts.length).toArray 30)]) M) (.cons (by decide) hT) (b := true) (by omega)) ?_
    rintro _ w17 ⟨rfl, v14, hM15⟩
    replace M : Mg w0 w17 (.obj g2 (.cells (t.d.cells t.ts.length).toArray 30) :: .obj gw (.cells #[.pointer (some ⟨gw, 0, none⟩), v14, .bool pl] 42) :: .row BY 1 (v14) (((bs ++ (if true = true then [35, 116] else [35, 102]))).length) ((Lib.byteCells ((bs ++ (if true = true then [35, 116] else [35, 102]))))) :: T) := (qs (X := [.obj g2 (.cells (t.d.cells t.ts.length).toArray 30)]) hM15)
    refine ⟨_, rfl, ?_⟩
    intro a A
    refine qa (hnorm _ _ (ji (v := .tuple #[]) A rfl .nil rfl ?_))
    refine ⟨rfl, v14, ?_⟩
    have hM8 := M.sub (L' := _ :: _ :: T) (.cons _ (.cons_cons _ (.cons_cons _ (.refl _))))
    rw [show wrT pl t.tr = (if true = true then [35, 116] else [35, 102]) from (by
     rw [kx, if_neg (by omega), if_neg (by omega)]
     unfold xd
     repeat (first | rw [if_pos (by omega)] | rw [if_neg (by omega)])
     try rfl
     try simp only [beq_iff_eq])]
    simpa only [List.append_assoc, List.append_nil, List.cons_append, List.nil_append] using hM8
   ·
    have hb13' := ne_of_beq_false hb13
    refine sdc A qg hb13 λa A↦?_
    refine sct A (ef rfl rfl) (qoa hp (toW (X := [.obj g2 (.cells (t.d.cells t.ts.length).toArray 30)]) M) (.cons (by decide) hT) (b := false) (by omega)) ?_
    rintro _ w21 ⟨rfl, v18, hM19⟩
    replace M : Mg w0 w21 (.obj g2 (.cells (t.d.cells t.ts.length).toArray 30) :: .obj gw (.cells #[.pointer (some ⟨gw, 0, none⟩), v18, .bool pl] 42) :: .row BY 1 (v18) (((bs ++ (if false = true then [35, 116] else [35, 102]))).length) ((Lib.byteCells ((bs ++ (if false = true then [35, 116] else [35, 102]))))) :: T) := (qs (X := [.obj g2 (.cells (t.d.cells t.ts.length).toArray 30)]) hM19)
    refine ⟨_, rfl, ?_⟩
    intro a A
    refine qa (hnorm _ _ (ji (v := .tuple #[]) A rfl .nil rfl ?_))
    refine ⟨rfl, v18, ?_⟩
    have hM8 := M.sub (L' := _ :: _ :: T) (.cons _ (.cons_cons _ (.cons_cons _ (.refl _))))
    rw [show wrT pl t.tr = (if false = true then [35, 116] else [35, 102]) from (by
     rw [kx, if_neg (by omega), if_neg (by omega)]
     unfold xd
     repeat (first | rw [if_pos (by omega)] | rw [if_neg (by omega)])
     try rfl
     try simp only [beq_iff_eq])]
    simpa only [List.append_assoc, List.append_nil, List.cons_append, List.nil_append] using hM8
  ·
   have hb12' := ne_of_beq_false hb12
   refine sdc A qg hb12 λa A↦?_
   refine sda A λa A↦?_
   refine qa (hK11 _ _ (wp_cond_false (A.ev rfl) ?_))
   refine wsk fun K22 hK22 => wrl ?_
   rcases tf ((t.d.k == 3)) with hb23 | hb23
   ·
    have hb23' := eq_of_beq hb23
    refine sdc A qg hb23 λa A↦?_
    refine sda A λa A↦?_
    refine qa (hK22 _ _ (wp_cond_true (A.ev rfl) ?_))
    refine wrl (sdm A λa A↦?_)
    refine sdo (v := .pointer (some ⟨g2, 2, none⟩)) A (qb TwJ_fld_30_2 rfl rfl) λa A↦?_
    refine sdo A (zn M TwJ_isS_26 rfl 0 rfl (cs := [.bool t.d.y.q.b1, .slice t.d.y.o1 t.d.y.q.t1.length t.d.y.c1, .slice t.d.y.o2 t.d.y.q.q1.length t.d.y.c2, .bool t.d.y.q.b2, .slice t.d.y.o3 t.d.y.q.t2.length t.d.y.c3, .slice t.d.y.o4 t.d.y.q.q2.length t.d.y.c4]) rfl rfl) λa A↦?_
    refine sct A (ef rfl rfl) (zsb hp (toW (X := [.obj g2 (.cells (t.d.cells t.ts.length).toArray 30)]) M) (.cons (by decide) hT) (y := t.d.y) (Dt.okT ht).1.num (Dt.okT ht).1.len ((zq gt).1.h3 (by omega)) (by have := qud ((zq gt).2.1 (by omega)); omega)) ?_
    rintro _ w27 ⟨rfl, v24, hM25⟩
    replace M : Mg w0 w27 (.obj g2 (.cells (t.d.cells t.ts.length).toArray 30) :: .obj gw (.cells #[.pointer (some ⟨gw, 0, none⟩), v24, .bool pl] 42) :: .row BY 1 (v24) (((bs ++ (jg 10 t.d.y.q))).length) ((Lib.byteCells ((bs ++ (jg 10 t.d.y.q))))) :: T) := (qs (X := [.obj g2 (.cells (t.d.cells t.ts.length).toArray 30)]) hM25)
    refine ⟨_, rfl, ?_⟩
    intro a A
    refine qa (hnorm _ _ (ji (v := .tuple #[]) A rfl .nil rfl ?_))
    refine ⟨rfl, v24, ?_⟩
    have hM8 := M.sub (L' := _ :: _ :: T) (.cons _ (.cons_cons _ (.cons_cons _ (.refl _))))
    rw [show wrT pl t.tr = (jg 10 t.d.y.q) from (by
     rw [kx, if_neg (by omega), if_neg (by omega)]
     unfold xd
     repeat (first | rw [if_pos (by omega)] | rw [if_neg (by omega)])
     try rfl
     try simp only [beq_iff_eq])]
    simpa only [List.append_assoc, List.append_nil, List.cons_append, List.nil_append] using hM8
   ·
    have hb23' := ne_of_beq_false hb23
    refine sdc A qg hb23 λa A↦?_
    refine sda A λa A↦?_
    refine qa (hK22 _ _ (wp_cond_false (A.ev rfl) ?_))
    refine wsk fun K28 hK28 => wrl ?_
    rcases tf ((t.d.k == 4)) with hb29 | hb29
    ·
     have hb29' := eq_of_beq hb29
     refine sdc A qg hb29 λa A↦?_
     refine sda A λa A↦?_
     refine qa (hK28 _ _ (wp_cond_true (A.ev rfl) ?_))
     refine wrl (sdm A λa A↦?_)
     refine sdo (v := .pointer (some ⟨g2, 1, none⟩)) A (qb TwJ_fld_30_1 rfl rfl) λa A↦?_
     refine sdo A (qk M TwJ_is1_3 rfl 0 rfl rfl) λa A↦?_
     refine sdo (v := .int .i32 (((t.d.n.toNat : Nat) : Int))) A (qt rfl (ar_conv Tryz.underlying3 Tryz.underlying21 ((in_i32 (by omega) (by omega)).trans (by omega)))) λa A↦?_
     refine sct A (ef rfl rfl) (zra hp (toW (X := [.obj g2 (.cells (t.d.cells t.ts.length).toArray 30)]) M) (.cons (by decide) hT) (n := t.d.n.toNat) (qzd ((zq gt).1.h4 (by omega)) hn9.1) hz (by omega)) ?_
     rintro _ w33 ⟨rfl, v30, hM31⟩
     replace M : Mg w0 w33 (.obj g2 (.cells (t.d.cells t.ts.length).toArray 30) :: .obj gw (.cells #[.pointer (some ⟨gw, 0, none⟩), v30, .bool pl] 42) :: .row BY 1 (v30) (((bs ++ (kv pl ((t.d.n.toNat : Nat) : Int)))).length) ((Lib.byteCells ((bs ++ (kv pl ((t.d.n.toNat : Nat) : Int)))))) :: T) := (qs (X := [.obj g2 (.cells (t.d.cells t.ts.length).toArray 30)]) hM31)
     refine ⟨_, rfl, ?_⟩
     intro a A
     refine qa (hnorm _ _ (ji (v := .tuple #[]) A rfl .nil rfl ?_))
     refine ⟨rfl, v30, ?_⟩
     have hM8 := M.sub (L' := _ :: _ :: T) (.cons _ (.cons_cons _ (.cons_cons _ (.refl _))))
     rw [show wrT pl t.tr = (kv pl ((t.d.n.toNat : Nat) : Int)) from (by
      rw [Int.toNat_of_nonneg hn9.1]
      rw [kx, if_neg (by omega), if_neg (by omega)]
      unfold xd
      repeat (first | rw [if_pos (by omega)] | rw [if_neg (by omega)])
      try rfl
      try simp only [beq_iff_eq])]
     simpa only [List.append_assoc, List.append_nil, List.cons_append, List.nil_append] using hM8
    ·
     have hb29' := ne_of_beq_false hb29
     refine sdc A qg hb29 λa A↦?_
     refine sda A λa A↦?_
     refine qa (hK28 _ _ (wp_cond_false (A.ev rfl) ?_))
     refine wsk fun K34 hK34 => wrl ?_
     rcases tf ((t.d.k == 5)) with hb35 | hb35
     ·
      have hb35' := eq_of_beq hb35
      refine sdc A qg hb35 λa A↦?_
      refine sda A λa A↦?_
      refine qa (hK34 _ _ (wp_cond_true (A.ev rfl) ?_))
      refine wrl (sdm A λa A↦?_)
      refine sdo (v := .pointer (some ⟨g2, 8, none⟩)) A (qb TwJ_fld_30_3 rfl rfl) λa A↦?_
      refine sdo A (qk M TwJ_is1_9 rfl 0 rfl rfl) λa A↦?_
      refine sct A (ef rfl rfl) (zrb hp (toW (X := [.obj g2 (.cells (t.d.cells t.ts.length).toArray 30)]) M) (.cons (by decide) hT) (s := t.d.s) (by omega) hz (by omega)) ?_
      rintro _ w39 ⟨rfl, v36, hM37⟩
      replace M : Mg w0 w39 (.obj g2 (.cells (t.d.cells t.ts.length).toArray 30) :: .obj gw (.cells #[.pointer (some ⟨gw, 0, none⟩), v36, .bool pl] 42) :: .row BY 1 (v36) (((bs ++ (qcd pl t.d.s))).length) ((Lib.byteCells ((bs ++ (qcd pl t.d.s))))) :: T) := (qs (X := [.obj g2 (.cells (t.d.cells t.ts.length).toArray 30)]) hM37)
      refine ⟨_, rfl, ?_⟩
      intro a A
      refine qa (hnorm _ _ (ji (v := .tuple #[]) A rfl .nil rfl ?_))
      refine ⟨rfl, v36, ?_⟩
      have hM8 := M.sub (L' := _ :: _ :: T) (.cons _ (.cons_cons _ (.cons_cons _ (.refl _))))
      rw [show wrT pl t.tr = (qcd pl t.d.s) from (by
       rw [kx, if_neg (by omega), if_neg (by omega)]
       unfold xd
       repeat (first | rw [if_pos (by omega)] | rw [if_neg (by omega)])
       try rfl
       try simp only [beq_iff_eq])]
      simpa only [List.append_assoc, List.append_nil, List.cons_append, List.nil_append] using hM8
     ·
      have hb35' := ne_of_beq_false hb35
      refine sdc A qg hb35 λa A↦?_
      refine sda A λa A↦?_
      refine qa (hK34 _ _ (wp_cond_false (A.ev rfl) ?_))
      refine wsk fun K40 hK40 => wrl ?_
      rcases tf ((t.d.k == 6)) with hb41 | hb41
      ·
       have hb41' := eq_of_beq hb41
       refine sdc A qg hb41 λa A↦?_
       refine sda A λa A↦?_
       refine qa (hK40 _ _ (wp_cond_true (A.ev rfl) ?_))
       refine wrl (sdm A λa A↦?_)
       refine sdo (v := .pointer (some ⟨g2, 8, none⟩)) A (qb TwJ_fld_30_3 rfl rfl) λa A↦?_
       refine sdo A (qk M TwJ_is1_9 rfl 0 rfl rfl) λa A↦?_
       refine sct A (ef rfl rfl) (zrj hp (toW (X := [.obj g2 (.cells (t.d.cells t.ts.length).toArray 30)]) M) (.cons (by decide) hT) (s := t.d.s) (by omega) hz (by omega)) ?_
       rintro _ w45 ⟨rfl, v42, hM43⟩
       replace M : Mg w0 w45 (.obj g2 (.cells (t.d.cells t.ts.length).toArray 30) :: .obj gw (.cells #[.pointer (some ⟨gw, 0, none⟩), v42, .bool pl] 42) :: .row BY 1 (v42) (((bs ++ (kw pl t.d.s))).length) ((Lib.byteCells ((bs ++ (kw pl t.d.s))))) :: T) := (qs (X := [.obj g2 (.cells (t.d.cells t.ts.length).toArray 30)]) hM43)
       refine ⟨_, rfl, ?_⟩
       intro a A
       refine qa (hnorm _ _ (ji (v := .tuple #[]) A rfl .nil rfl ?_))
       refine ⟨rfl, v42, ?_⟩
       have hM8 := M.sub (L' := _ :: _ :: T) (.cons _ (.cons_cons _ (.cons_cons _ (.refl _))))
       rw [show wrT pl t.tr = (kw pl t.d.s) from (by
        rw [kx, if_neg (by omega), if_neg (by omega)]
        unfold xd
        repeat (first | rw [if_pos (by omega)] | rw [if_neg (by omega)])
        try rfl
        try simp only [beq_iff_eq])]
       simpa only [List.append_assoc, List.append_nil, List.cons_append, List.nil_append] using hM8
      ·
       have hb41' := ne_of_beq_false hb41
       refine sdc A qg hb41 λa A↦?_
       refine sda A λa A↦?_
       refine qa (hK40 _ _ (wp_cond_false (A.ev rfl) ?_))
       refine wsk fun K46 hK46 => wrl ?_
       rcases tf ((t.d.k == 7)) with hb47 | hb47
       ·
        have hb47' := eq_of_beq hb47
        refine sdc A qg hb47 λa A↦?_
        refine sda A λa A↦?_
        refine qa (hK46 _ _ (wp_cond_true (A.ev rfl) ?_))
        refine wrl (sdm A λa A↦?_)
        refine sdo (v := .pointer (some ⟨g2, 9, none⟩)) A (qb TwJ_fld_30_4 rfl rfl) λa A↦?_
        refine sdo A (qk M TwJ_is1_27 rfl 0 rfl rfl) λa A↦?_
        refine sct A (ef rfl rfl) (zpi hp (toW (X := [.obj g2 (.cells (t.d.cells t.ts.length).toArray 30)]) M) (.cons (by decide) hT) (l := t.d.rl) (Dt.okT ht).1.raw (by omega) htp (by omega)) ?_
        rintro _ w51 ⟨rfl, v48, hM49⟩
        replace M : Mg w0 w51 (.obj g2 (.cells (t.d.cells t.ts.length).toArray 30) :: .obj gw (.cells #[.pointer (some ⟨gw, 0, none⟩), v48, .bool pl] 42) :: .row BY 1 (v48) (((bs ++ (qra t.d.rl))).length) ((Lib.byteCells ((bs ++ (qra t.d.rl))))) :: T) := (qs (X := [.obj g2 (.cells (t.d.cells t.ts.length).toArray 30)]) hM49)
        refine ⟨_, rfl, ?_⟩
        intro a A
        refine qa (hnorm _ _ (ji (v := .tuple #[]) A rfl .nil rfl ?_))
        refine ⟨rfl, v48, ?_⟩
        have hM8 := M.sub (L' := _ :: _ :: T) (.cons _ (.cons_cons _ (.cons_cons _ (.refl _))))
        rw [show wrT pl t.tr = (qra t.d.rl) from (by
         rw [kx, if_neg (by omega), if_neg (by omega)]
         unfold xd
         repeat (first | rw [if_pos (by omega)] | rw [if_neg (by omega)])
         try rfl
         try simp only [beq_iff_eq])]
        simpa only [List.append_assoc, List.append_nil, List.cons_append, List.nil_append] using hM8
       ·
        have hb47' := ne_of_beq_false hb47
        refine sdc A qg hb47 λa A↦?_
        refine sda A λa A↦?_
        refine qa (hK46 _ _ (wp_cond_false (A.ev rfl) ?_))
        refine wsk fun K52 hK52 => wrl ?_
        rcases tf ((t.d.k == 8)) with hb53 | hb53
        ·
         have hb53' := eq_of_beq hb53
         refine sdc A qg hb53 λa A↦?_
         refine sda A λa A↦?_
         refine qa (hK52 _ _ (wp_cond_true (A.ev rfl) ?_))
         refine wrl (sdm A λa A↦?_)
         refine sdo A (zn M TwJ_isS_30 rfl 0 rfl (cs := [.int .i64 t.d.k, .int .i64 t.d.n, .bool t.d.y.q.b1, .slice t.d.y.o1 t.d.y.q.t1.length t.d.y.c1, .slice t.d.y.o2 t.d.y.q.q1.length t.d.y.c2, .bool t.d.y.q.b2, .slice t.d.y.o3 t.d.y.q.t2.length t.d.y.c3, .slice t.d.y.o4 t.d.y.q.q2.length t.d.y.c4, .string t.d.s, .slice t.d.ro t.d.rl.length t.d.rc, .slice t.d.lo t.ts.length t.d.lc]) rfl rfl) λa A↦?_
         refine sct A (ef rfl rfl) (zrc hp (toW (X := [.obj g2 (.cells (t.d.cells t.ts.length).toArray 30)]) M) (.cons (by decide) hT) ih (t := t) ht gt (by omega) hz htp hmax (by omega) hroom) ?_
         rintro _ w57 ⟨rfl, v54, hM55⟩
         replace M : Mg w0 w57 (.obj g2 (.cells (t.d.cells t.ts.length).toArray 30) :: .obj gw (.cells #[.pointer (some ⟨gw, 0, none⟩), v54, .bool pl] 42) :: .row BY 1 (v54) (((bs ++ (wrT pl t.tr))).length) ((Lib.byteCells ((bs ++ (wrT pl t.tr))))) :: T) := (qs (X := [.obj g2 (.cells (t.d.cells t.ts.length).toArray 30)]) hM55)
         refine ⟨_, rfl, ?_⟩
         intro a A
         refine qa (hnorm _ _ (ji (v := .tuple #[]) A rfl .nil rfl ?_))
         refine ⟨rfl, v54, ?_⟩
         have hM8 := M.sub (L' := _ :: _ :: T) (.cons _ (.cons_cons _ (.cons_cons _ (.refl _))))
         simpa only [List.append_assoc, List.append_nil, List.cons_append, List.nil_append] using hM8
        ·
         have hb53' := ne_of_beq_false hb53
         refine sdc A qg hb53 λa A↦?_
         refine sda A λa A↦?_
         refine qa (hK52 _ _ (wp_cond_false (A.ev rfl) ?_))
         refine wsk fun K58 hK58 => wrl ?_
         rcases tf ((t.d.k == 9)) with hb59 | hb59
         ·
          have hb59' := eq_of_beq hb59
          refine sdc A qg hb59 λa A↦?_
          refine sda A λa A↦?_
          refine qa (hK58 _ _ (wp_cond_true (A.ev rfl) ?_))
          refine wrl (sdm A λa A↦?_)
          refine sdo (v := .pointer (some ⟨g2, 10, none⟩)) A (qb TwJ_fld_30_5 rfl rfl) λa A↦?_
          refine sdo A (qk M TwJ_is1_28 rfl 0 rfl rfl) λa A↦?_
          refine sct A (ef rfl rfl) (zsa hp (toW (X := [.obj g2 (.cells (t.d.cells t.ts.length).toArray 30)]) M) (.cons (by decide) hT) ih (t := t) ht gt (by omega) hz htp hmax hroom) ?_
          rintro _ w63 ⟨rfl, v60, hM61⟩
          replace M : Mg w0 w63 (.obj g2 (.cells (t.d.cells t.ts.length).toArray 30) :: .obj gw (.cells #[.pointer (some ⟨gw, 0, none⟩), v60, .bool pl] 42) :: .row BY 1 (v60) (((bs ++ ([35, 40] ++ wrL pl true (t.ts.map Dt.tr) ++ [41]))).length) ((Lib.byteCells ((bs ++ ([35, 40] ++ wrL pl true (t.ts.map Dt.tr) ++ [41]))))) :: T) := (qs (X := [.obj g2 (.cells (t.d.cells t.ts.length).toArray 30)]) hM61)
          refine ⟨_, rfl, ?_⟩
          intro a A
          refine qa (hnorm _ _ (ji (v := .tuple #[]) A rfl .nil rfl ?_))
          refine ⟨rfl, v60, ?_⟩
          have hM8 := M.sub (L' := _ :: _ :: T) (.cons _ (.cons_cons _ (.cons_cons _ (.refl _))))
          rw [show wrT pl t.tr = ([35, 40] ++ wrL pl true (t.ts.map Dt.tr) ++ [41]) from (by rw [kx, if_neg (by omega), if_pos (by omega)])]
          simpa only [List.append_assoc, List.append_nil, List.cons_append, List.nil_append] using hM8
         ·
          have hb59' := ne_of_beq_false hb59
          refine sdc A qg hb59 λa A↦?_
          refine sda A λa A↦?_
          refine qa (hK58 _ _ (wp_cond_false (A.ev rfl) ?_))
          refine wsk fun K64 hK64 => wrl ?_
          rcases tf ((t.d.k == 10)) with hb65 | hb65
          ·
           have hb65' := eq_of_beq hb65
           refine sdc A qg hb65 λa A↦?_
           refine sda A λa A↦?_
           refine qa (hK64 _ _ (wp_cond_true (A.ev rfl) ?_))
           refine wrl (sdm A λa A↦?_)
           refine sdo A (qi rfl) λa A↦?_
           refine sdo (v := .pointer (some ⟨gw, 0, none⟩)) A (qb TwJ_fld_42_0 rfl rfl) λa A↦?_
           refine sct A (ef rfl rfl) (ja hp (toW (X := [.obj g2 (.cells (t.d.cells t.ts.length).toArray 30)]) M) (s := ⟨#[35, 60, 118, 111, 105, 100, 62]⟩) (by first | omega | (simp only [List.length_append, List.length_cons, List.length_nil]; omega) | (simp only [List.length_append, List.length_cons, List.length_nil, ByteArray.size, List.size_toArray, Array.size]; omega))) ?_
           rintro _ w69 ⟨rfl, v66, hM67⟩
           replace M : Mg w0 w69 (.obj g2 (.cells (t.d.cells t.ts.length).toArray 30) :: .obj gw (.cells #[.pointer (some ⟨gw, 0, none⟩), v66, .bool pl] 42) :: .row BY 1 (v66) (((bs ++ ([35, 60, 118, 111, 105, 100, 62]))).length) ((Lib.byteCells ((bs ++ ([35, 60, 118, 111, 105, 100, 62]))))) :: T) := (qs (X := [.obj g2 (.cells (t.d.cells t.ts.length).toArray 30)]) hM67)
           refine ⟨_, rfl, ?_⟩
           intro a A
           refine qa (hnorm _ _ (ji (v := .tuple #[]) A rfl .nil rfl ?_))
           refine ⟨rfl, v66, ?_⟩
           have hM8 := M.sub (L' := _ :: _ :: T) (.cons _ (.cons_cons _ (.cons_cons _ (.refl _))))
           rw [show wrT pl t.tr = ([35, 60, 118, 111, 105, 100, 62]) from (by
            rw [kx, if_neg (by omega), if_neg (by omega)]
            unfold xd
            repeat (first | rw [if_pos (by omega)] | rw [if_neg (by omega)])
            try rfl
            try simp only [beq_iff_eq])]
           simpa only [List.append_assoc, List.append_nil, List.cons_append, List.nil_append] using hM8
          ·
           have hb65' := ne_of_beq_false hb65
           refine sdc A qg hb65 λa A↦?_
           refine sda A λa A↦?_
           refine qa (hK64 _ _ (wp_cond_false (A.ev rfl) ?_))
           refine wsk fun K70 hK70 => wrl (sdo (v := .bool true) A (qe rfl rfl (fun w => (qg w).trans (by rw [show ((t.d.k == 11)) = true from (beq_iff_eq.2 (by omega))]))) λa A↦?_)
           refine sda A λa A↦?_
           refine qa (hK70 _ _ (wp_cond_true (A.ev rfl) ?_))
           refine wrl (sdm A λa A↦?_)
           refine sdo (v := .pointer (some ⟨g2, 8, none⟩)) A (qb TwJ_fld_30_3 rfl rfl) λa A↦?_
           refine sdo A (qk M TwJ_is1_9 rfl 0 rfl rfl) λa A↦?_
           refine sct A (ef rfl rfl) (zpg hp (toW (X := [.obj g2 (.cells (t.d.cells t.ts.length).toArray 30)]) M) (.cons (by decide) hT) (s := t.d.s) (by simp only [List.length_append, List.length_cons, List.length_nil]; omega)) ?_
           rintro _ w74 ⟨rfl, v71, hM72⟩
           replace M : Mg w0 w74 (.obj g2 (.cells (t.d.cells t.ts.length).toArray 30) :: .obj gw (.cells #[.pointer (some ⟨gw, 0, none⟩), v71, .bool pl] 42) :: .row BY 1 (v71) (((bs ++ ([35, 60] ++ t.d.s.data.toList ++ [62]))).length) ((Lib.byteCells ((bs ++ ([35, 60] ++ t.d.s.data.toList ++ [62]))))) :: T) := (qs (X := [.obj g2 (.cells (t.d.cells t.ts.length).toArray 30)]) hM72)
           refine ⟨_, rfl, ?_⟩
           intro a A
           refine qa (hnorm _ _ (ji (v := .tuple #[]) A rfl .nil rfl ?_))
           refine ⟨rfl, v71, ?_⟩
           have hM8 := M.sub (L' := _ :: _ :: T) (.cons _ (.cons_cons _ (.cons_cons _ (.refl _))))
           rw [show wrT pl t.tr = ([35, 60] ++ t.d.s.data.toList ++ [62]) from (by
            rw [kx, if_neg (by omega), if_neg (by omega)]
            unfold xd
            repeat (first | rw [if_pos (by omega)] | rw [if_neg (by omega)])
            try rfl
            try simp only [beq_iff_eq])]
           simpa only [List.append_assoc, List.append_nil, List.cons_append, List.nil_append] using hM8
theorem qlb : ∀ n, Writes n
 | 0 => fun _ _ _ h => absurd h (Nat.not_lt_zero _)
 | n + 1 => qvc (qlb n)
theorem TrA_is1_28 : Is1 Tryz.prog 28 := ⟨⟨_, Tryz.underlying28, rfl⟩, by kernel_rfl⟩
theorem TrA_is1_3 : Is1 Tryz.prog 3 := ⟨⟨_, Tryz.underlying3, rfl⟩, by kernel_rfl⟩
theorem TrA_fld_30_0 : FieldAt Tryz.prog 30 0 0 := ⟨_, _, Tryz.underlying30, rfl, rfl, by kernel_rfl⟩
theorem TrA_fld_30_5 : FieldAt Tryz.prog 30 5 10 := ⟨_, _, Tryz.underlying30, rfl, rfl, by kernel_rfl⟩
/-- The walk of the size of a datum. -/
def FitsAt (t : Dt) : Prop := ∀ {w0 w : World} {b o gl : Nat} {left dp : Int} {T : List Ck}, t.rd w0 → Here w0 b o t.cells → Mg w0 w (.obj gl (.cells #[.int .i64 left] 3) :: T) → 0 ≤ left → left ≤ 20000 → 0 ≤ dp → dp ≤ 201 → Calls Tryz.prog 47 #[.pointer (some ⟨b, o, none⟩), .int .i64 dp, .pointer (some ⟨gl, 0, none⟩)] w fun e w' => e = .returned (.bool (jo dp left t.tr).1) ∧ Mg w0 w' (.obj gl (.cells #[.int .i64 (jo dp left t.tr).2] 3) :: T)
theorem qze : ∀ t : Dt, FitsAt t := Dt.indT fun d ts ih => by
 intro w0 w b o gl left dp T hrd hH hM0 hl0 hl1 hd0 hd1
 replace hH : Here w0 b o (d.cells ts.length) := hH
 have hok := (Dt.rd_iff.1 hrd)
 have hk0 := hok.1.k0
 have hk1 := hok.1.k1
 have hlen : ts.length ≤ 9223372036854775807 := Nat.le_trans hok.2.1 hok.2.2.1
 have M : Mg w0 w (.obj gl (.cells #[.int .i64 left] 3) :: T) := hM0
 refine qm (l := [(0, .pointer (some ⟨b, o, none⟩)), (1, .int .i64 dp), (2, .pointer (some ⟨gl, 0, none⟩))]) Tryz.func47 rfl Tryz.ntmps47 rfl rfl ?_
 intro Q hret hnorm hP a A
 refine wsk fun K1 hK1 => wrl (sda A λa A↦?_)
 refine qa (hK1 _ _ (wsk fun K2 hK2 => wrl (sdm A λa A↦?_)))
 refine sdo A (qi rfl) λa A↦?_
 refine sdo A (qk M TrA_is1_3 rfl 0 rfl rfl) λa A↦?_
 refine sdo (v := .int .i64 (left - 1)) A (qe rfl rfl (zad (jw (by omega) (by omega)))) λa A↦?_
 refine sdo A (qi rfl) λa A↦?_
 refine qz (us := [.int .i64 (left - 1)]) (L' := (.obj gl (.cells #[.int .i64 (left - 1)] 3) :: T)) A M rfl rfl (qw rfl rfl rfl (by kernel_rfl) M 0 rfl rfl rfl) 0 rfl rfl rfl ?_
 intro w3 M
 refine qa (hK2 _ _ (wsk fun K4 hK4 => wsk fun K5 hK5 => wrl (sdm A λa A↦?_)))
 refine sdo A (qi rfl) λa A↦?_
 refine sdo A (qk M TrA_is1_3 rfl 0 rfl rfl) λa A↦?_
 rcases tf (decide (left - 1 < 0)) with hb6 | hb6
 ·
  have hb6' := of_decide_eq_true hb6
  refine sdc A zg hb6 λa A↦?_
  refine sdm A λa A↦?_
  iterate 2 refine qh A rfl rfl rfl λa A↦?_
  refine sdk (v := .bool true) A λa A↦?_
  refine qa (hK5 _ _ (wp_cond_true (A.ev rfl) ?_))
  refine wsk fun K7 hK7 => wrl (sda A λa A↦?_)
  refine qa (hK7 _ _ (wp_ret (hret _ _ (en1 A rfl (qf rfl) ?_))))
  rw [zae (by omega)]
  exact ⟨rfl, M⟩
 ·
  have hb6' := of_decide_eq_false hb6
  refine sdc A zg hb6 λa A↦?_
  iterate 2 refine sdm A λa A↦?_
  rcases tf (decide (200 < dp)) with hb8 | hb8
  ·
   have hb8' := of_decide_eq_true hb8
   refine sdc A je hb8 λa A↦?_
   refine sdk (v := .bool true) A λa A↦?_
   refine qa (hK5 _ _ (wp_cond_true (A.ev rfl) ?_))
   refine wsk fun K9 hK9 => wrl (sda A λa A↦?_)
   refine qa (hK9 _ _ (wp_ret (hret _ _ (en1 A rfl (qf rfl) ?_))))
   rw [zae (by omega)]
   exact ⟨rfl, M⟩
  ·
   have hb8' := of_decide_eq_false hb8
   refine sdc A je hb8 λa A↦?_
   refine sdk (v := .bool false) A λa A↦?_
   refine qa (hK5 _ _ (wp_cond_false (A.ev rfl) ?_))
   refine wp_skip (hK4 _ _ (wsk fun K10 hK10 => wsk fun K11 hK11 => wrl (sdm A λa A↦?_)))
   refine sdo A (qi rfl) λa A↦?_
   refine sdo (v := .pointer (some ⟨b, o + 10, none⟩)) A (qb TrA_fld_30_5 rfl rfl) λa A↦?_
   refine sdo A (qbf (j := 10) M hH TrA_is1_28 rfl rfl rfl) λa A↦?_
   refine sdo A (qx Tryz.underlying28 rfl) λa A↦?_
   refine sdm A λa A↦?_
   refine qa (hK11 _ _ (wp_block (zt (fun m_ a w1 => ∃ (i : Nat) (m : Int), m_ = 1 + (ts.length - i) ∧ (i ≤ ts.length ∧ yx dp (decide (d.k = 8)) 0 (left - 1) ((ts.map Dt.tr).drop 0) = yx dp (decide (d.k = 8)) i m ((ts.map Dt.tr).drop i) ∧ 0 ≤ m ∧ m ≤ 20000) ∧ Sl a 53 [(0, .pointer (some ⟨b, o, none⟩)), (1, .int .i64 dp), (2, .pointer (some ⟨gl, 0, none⟩)), (9, .pointer (some ⟨gl, 0, none⟩)), (10, .pointer (some ⟨gl, 0, none⟩)), (11, .int .i64 left), (12, .int .i64 (left - 1)), (13, .pointer (some ⟨gl, 0, none⟩)), (14, .pointer (some ⟨gl, 0, none⟩)), (15, .pointer (some ⟨gl, 0, none⟩)), (16, .int .i64 (left - 1)), (17, .bool false), (18, .bool false), (19, .int .i64 dp), (20, .bool false), (21, .bool false), (22, .pointer (some ⟨b, o, none⟩)), (23, .pointer (some ⟨b, o, none⟩)), (24, .pointer (some ⟨b, o + 10, none⟩)), (25, .slice d.lo ts.length d.lc), (26, .int .i64 (((ts.length : Nat) : Int))), (27, .int .i64 (((i : Nat) : Int)))] ∧ Mg w0 w1 (.obj gl (.cells #[.int .i64 m] 3) :: T)) _ ⟨0, left - 1, rfl, ⟨Nat.zero_le _, rfl, by omega, by omega⟩, A.keep _ ⟨rfl, rfl, rfl, rfl, rfl, rfl, rfl, rfl, rfl, rfl, rfl, rfl, rfl, rfl, rfl, rfl, rfl, rfl, rfl, rfl, rfl, rfl, trivial⟩, M⟩ ?_)))
   clear M A
   rintro m_ a w12 ⟨i, m, rfl, hinv14, A, M⟩ K13 hK13
   obtain ⟨hi0, hin9, hm0, hm1⟩ := hinv14
   refine wsk fun K15 hK15 => wrl ?_
   rcases tf (decide (((i : Nat) : Int) < ((ts.length : Nat) : Int))) with hb16 | hb16
   ·
    have hb16' := of_decide_eq_true hb16
    refine sdc A zg hb16 λa A↦?_
    refine qa (hK15 _ _ (wsk fun K17 hK17 => wp_cond_true (A.ev rfl) ?_))
    refine wp_skip (hK17 _ _ (wsk fun K18 hK18 => wp_block (wsk fun K19 hK19 => wrl (sdm A λa A↦?_))))
    refine sda A λa A↦?_
    refine qa (hK19 _ _ (wsk fun K20 hK20 => wrl (sdm A λa A↦?_)))
    refine sdo (v := .int .i64 (dp + 1)) A (qe rfl rfl (zx (jw (by omega) (by omega)))) λa A↦?_
    refine sda A λa A↦?_
    refine qa (hK20 _ _ (wsk fun K21 hK21 => wsk fun K22 hK22 => wrl (sdm A λa A↦?_)))
    refine sdo A (qi rfl) λa A↦?_
    refine sdo (v := .pointer (some ⟨b, o, none⟩)) A (qb TrA_fld_30_0 rfl rfl) λa A↦?_
    refine sdo A (qbf (j := 0) M hH TrA_is1_3 rfl rfl rfl) λa A↦?_
    rcases tf ((d.k == 8)) with hb23 | hb23
    ·
     have hb23' := eq_of_beq hb23
     refine sdc A qg hb23 λa A↦?_
     iterate 2 refine sdm A λa A↦?_
     rcases tf ((((i : Nat) : Int) == 1)) with hb24 | hb24
     ·
      have hb24' := eq_of_beq hb24
      refine sdc A qg hb24 λa A↦?_
      refine sdk (v := .bool true) A λa A↦?_
      refine qa (hK22 _ _ (wp_cond_true (A.ev rfl) ?_))
      refine wrl (sdm A λa A↦?_)
      refine sda A λa A↦?_
      refine qa (hK21 _ _ (wsk fun K25 hK25 => ?_))
      obtain ⟨t1, b1, o1, hi1, hm1, hr1, hl1, hH1⟩ := kid hrd (i := i) (by omega)
      have hD : (if decide (d.k = 8) = true ∧ i = 1 then dp else dp + 1) = dp := if_pos ⟨decide_eq_true hb23', by omega⟩
      refine wrl (sdm A λa A↦?_)
      refine sdo A (qi rfl) λa A↦?_
      refine sdo (v := .pointer (some ⟨b, o + 10, none⟩)) A (qb TrA_fld_30_5 rfl rfl) λa A↦?_
      refine sdo A (qbf (j := 10) M hH TrA_is1_28 rfl rfl rfl) λa A↦?_
      refine sdm A λa A↦?_
      refine sdo (v := .pointer (some ⟨b1, o1 + i * 11, none⟩)) A (zk (k := i) Tryz.underlying28 (by kernel_rfl) rfl rfl rfl hl1 (by omega)) λa A↦?_
      iterate 2 refine sdm A λa A↦?_
      refine sct A (ef rfl rfl) (ih t1 hm1 hr1 hH1 M (by omega) (by omega) (by omega) (by omega)) ?_
      rintro _ w27 ⟨rfl, hM26⟩
      replace M : Mg w0 w27 (.obj gl (.cells #[.int .i64 ((jo (dp) m t1.tr).2)] 3) :: T) := hM26
      refine ⟨_, rfl, ?_⟩
      intro a A
      refine sdo (v := .bool (!((jo (dp) m t1.tr).1))) A (qy rfl zj) λa A↦?_
      refine qa (hK25 _ _ ?_)
      refine wp_cond_split (t := !((jo (dp) m t1.tr).1)) (A.ev rfl) (fun hc28 => ?_) (fun hc28 => ?_)
      ·
       refine wsk fun K29 hK29 => wrl (sda A λa A↦?_)
       refine qa (hK29 _ _ (wp_ret (hret _ _ (en1 A rfl (qf rfl) ?_))))
       have hr9 : (jo (dp) m t1.tr).1 = false := by simpa using hc28
       have e9 : jo dp left (Dt.mk d ts).tr = (false, (jo (dp) m t1.tr).2) := by rw [qie (by omega) (by omega), hin9, qgb hi1 hD hr9]
       rw [e9]
       exact ⟨rfl, M⟩
      ·
       refine wp_skip (hK18 _ _ (wrl (sdo (v := .int .i64 (((i + 1 : Nat) : Int))) A (qe rfl rfl (fun w => (zx (jw (by omega) (by omega)) w).trans (by rw [show (((i : Nat) : Int) + 1 : Int) = ((i + 1 : Nat) : Int) from by omega]))) λa A↦?_)))
       refine sdm A λa A↦?_
       refine qa ?_
       have hr9 : (jo (dp) m t1.tr).1 = true := by simpa using hc28
       have hp9 := qbc t1.tr _ _ hr9
       have hl9 := qpc t1.tr (dp) m
       refine hK13 _ _ _ (by omega) ⟨i + 1, (jo (dp) m t1.tr).2, rfl, ⟨by omega, by rw [hin9, qpd hi1 hD hr9], by omega, by omega⟩, A.keep _ ⟨rfl, rfl, rfl, rfl, rfl, rfl, rfl, rfl, rfl, rfl, rfl, rfl, rfl, rfl, rfl, rfl, rfl, rfl, rfl, rfl, rfl, rfl, trivial⟩, M⟩
     ·
      have hb24' := ne_of_beq_false hb24
      refine sdc A qg hb24 λa A↦?_
      refine sdk (v := .bool false) A λa A↦?_
      refine qa (hK22 _ _ (wp_cond_false (A.ev rfl) ?_))
      refine wp_skip (hK21 _ _ (wsk fun K30 hK30 => ?_))
      obtain ⟨t1, b1, o1, hi1, hm1, hr1, hl1, hH1⟩ := kid hrd (i := i) (by omega)
      have hD : (if decide (d.k = 8) = true ∧ i = 1 then dp else dp + 1) = dp + 1 := if_neg (fun e => by omega)
      refine wrl (sdm A λa A↦?_)
      refine sdo A (qi rfl) λa A↦?_
      refine sdo (v := .pointer (some ⟨b, o + 10, none⟩)) A (qb TrA_fld_30_5 rfl rfl) λa A↦?_
      refine sdo A (qbf (j := 10) M hH TrA_is1_28 rfl rfl rfl) λa A↦?_
      refine sdm A λa A↦?_
      refine sdo (v := .pointer (some ⟨b1, o1 + i * 11, none⟩)) A (zk (k := i) Tryz.underlying28 (by kernel_rfl) rfl rfl rfl hl1 (by omega)) λa A↦?_
      iterate 2 refine sdm A λa A↦?_
      refine sct A (ef rfl rfl) (ih t1 hm1 hr1 hH1 M (by omega) (by omega) (by omega) (by omega)) ?_
      rintro _ w32 ⟨rfl, hM31⟩
      replace M : Mg w0 w32 (.obj gl (.cells #[.int .i64 ((jo (dp + 1) m t1.tr).2)] 3) :: T) := hM31
      refine ⟨_, rfl, ?_⟩
      intro a A
      refine sdo (v := .bool (!((jo (dp + 1) m t1.tr).1))) A (qy rfl zj) λa A↦?_
      refine qa (hK30 _ _ ?_)
      refine wp_cond_split (t := !((jo (dp + 1) m t1.tr).1)) (A.ev rfl) (fun hc33 => ?_) (fun hc33 => ?_)
      ·
       refine wsk fun K34 hK34 => wrl (sda A λa A↦?_)
       refine qa (hK34 _ _ (wp_ret (hret _ _ (en1 A rfl (qf rfl) ?_))))
       have hr9 : (jo (dp + 1) m t1.tr).1 = false := by simpa using hc33
       have e9 : jo dp left (Dt.mk d ts).tr = (false, (jo (dp + 1) m t1.tr).2) := by rw [qie (by omega) (by omega), hin9, qgb hi1 hD hr9]
       rw [e9]
       exact ⟨rfl, M⟩
      ·
       refine wp_skip (hK18 _ _ (wrl (sdo (v := .int .i64 (((i + 1 : Nat) : Int))) A (qe rfl rfl (fun w => (zx (jw (by omega) (by omega)) w).trans (by rw [show (((i : Nat) : Int) + 1 : Int) = ((i + 1 : Nat) : Int) from by omega]))) λa A↦?_)))
       refine sdm A λa A↦?_
       refine qa ?_
       have hr9 : (jo (dp + 1) m t1.tr).1 = true := by simpa using hc33
       have hp9 := qbc t1.tr _ _ hr9
       have hl9 := qpc t1.tr (dp + 1) m
       refine hK13 _ _ _ (by omega) ⟨i + 1, (jo (dp + 1) m t1.tr).2, rfl, ⟨by omega, by rw [hin9, qpd hi1 hD hr9], by omega, by omega⟩, A.keep _ ⟨rfl, rfl, rfl, rfl, rfl, rfl, rfl, rfl, rfl, rfl, rfl, rfl, rfl, rfl, rfl, rfl, rfl, rfl, rfl, rfl, rfl, rfl, trivial⟩, M⟩
    ·
     have hb23' := ne_of_beq_false hb23
     refine sdc A qg hb23 λa A↦?_
     refine sdm A λa A↦?_
     iterate 2 refine qh A rfl rfl rfl λa A↦?_
     refine sdk (v := .bool false) A λa A↦?_
     refine qa (hK22 _ _ (wp_cond_false (A.ev rfl) ?_))
     refine wp_skip (hK21 _ _ (wsk fun K35 hK35 => ?_))
     obtain ⟨t1, b1, o1, hi1, hm1, hr1, hl1, hH1⟩ := kid hrd (i := i) (by omega)
     have hD : (if decide (d.k = 8) = true ∧ i = 1 then dp else dp + 1) = dp + 1 := if_neg (fun e => hb23' (of_decide_eq_true e.1))
     refine wrl (sdm A λa A↦?_)
     refine sdo A (qi rfl) λa A↦?_
     refine sdo (v := .pointer (some ⟨b, o + 10, none⟩)) A (qb TrA_fld_30_5 rfl rfl) λa A↦?_
     refine sdo A (qbf (j := 10) M hH TrA_is1_28 rfl rfl rfl) λa A↦?_
     refine sdm A λa A↦?_
     refine sdo (v := .pointer (some ⟨b1, o1 + i * 11, none⟩)) A (zk (k := i) Tryz.underlying28 (by kernel_rfl) rfl rfl rfl hl1 (by omega)) λa A↦?_
     iterate 2 refine sdm A λa A↦?_
     refine sct A (ef rfl rfl) (ih t1 hm1 hr1 hH1 M (by omega) (by omega) (by omega) (by omega)) ?_
     rintro _ w37 ⟨rfl, hM36⟩
     replace M : Mg w0 w37 (.obj gl (.cells #[.int .i64 ((jo (dp + 1) m t1.tr).2)] 3) :: T) := hM36
     refine ⟨_, rfl, ?_⟩
     intro a A
     refine sdo (v := .bool (!((jo (dp + 1) m t1.tr).1))) A (qy rfl zj) λa A↦?_
     refine qa (hK35 _ _ ?_)
     refine wp_cond_split (t := !((jo (dp + 1) m t1.tr).1)) (A.ev rfl) (fun hc38 => ?_) (fun hc38 => ?_)
     ·
      refine wsk fun K39 hK39 => wrl (sda A λa A↦?_)
      refine qa (hK39 _ _ (wp_ret (hret _ _ (en1 A rfl (qf rfl) ?_))))
      have hr9 : (jo (dp + 1) m t1.tr).1 = false := by simpa using hc38
      have e9 : jo dp left (Dt.mk d ts).tr = (false, (jo (dp + 1) m t1.tr).2) := by rw [qie (by omega) (by omega), hin9, qgb hi1 hD hr9]
      rw [e9]
      exact ⟨rfl, M⟩
     ·
      refine wp_skip (hK18 _ _ (wrl (sdo (v := .int .i64 (((i + 1 : Nat) : Int))) A (qe rfl rfl (fun w => (zx (jw (by omega) (by omega)) w).trans (by rw [show (((i : Nat) : Int) + 1 : Int) = ((i + 1 : Nat) : Int) from by omega]))) λa A↦?_)))
      refine sdm A λa A↦?_
      refine qa ?_
      have hr9 : (jo (dp + 1) m t1.tr).1 = true := by simpa using hc38
      have hp9 := qbc t1.tr _ _ hr9
      have hl9 := qpc t1.tr (dp + 1) m
      refine hK13 _ _ _ (by omega) ⟨i + 1, (jo (dp + 1) m t1.tr).2, rfl, ⟨by omega, by rw [hin9, qpd hi1 hD hr9], by omega, by omega⟩, A.keep _ ⟨rfl, rfl, rfl, rfl, rfl, rfl, rfl, rfl, rfl, rfl, rfl, rfl, rfl, rfl, rfl, rfl, rfl, rfl, rfl, rfl, rfl, rfl, trivial⟩, M⟩
   ·
    have hb16' := of_decide_eq_false hb16
    refine sdc A zg hb16 λa A↦?_
    refine qa (hK15 _ _ (wsk fun K40 hK40 => wp_cond_false (A.ev rfl) ?_))
    refine wp_exit (hK10 _ _ (wsk fun K41 hK41 => wrl (sda A λa A↦?_)))
    refine qa (hK41 _ _ (wp_ret (hret _ _ (en1 A rfl (qf rfl) ?_))))
    have e9 : jo dp left (Dt.mk d ts).tr = (true, m) := by rw [qie (by omega) (by omega), hin9, uf (by omega), yx]
    rw [e9]
    exact ⟨rfl, M⟩
theorem TrB_is1_22 : Is1 Tryz.prog 22 := ⟨⟨_, Tryz.underlying22, rfl⟩, by kernel_rfl⟩
theorem TrB_is1_27 : Is1 Tryz.prog 27 := ⟨⟨_, Tryz.underlying27, rfl⟩, by kernel_rfl⟩
theorem TrB_is1_28 : Is1 Tryz.prog 28 := ⟨⟨_, Tryz.underlying28, rfl⟩, by kernel_rfl⟩
theorem TrB_is1_3 : Is1 Tryz.prog 3 := ⟨⟨_, Tryz.underlying3, rfl⟩, by kernel_rfl⟩
theorem TrB_is1_4 : Is1 Tryz.prog 4 := ⟨⟨_, Tryz.underlying4, rfl⟩, by kernel_rfl⟩
theorem TrB_is1_9 : Is1 Tryz.prog 9 := ⟨⟨_, Tryz.underlying9, rfl⟩, by kernel_rfl⟩
theorem TrB_fld_24_0 : FieldAt Tryz.prog 24 0 0 := ⟨_, _, Tryz.underlying24, rfl, rfl, by kernel_rfl⟩
theorem TrB_fld_24_1 : FieldAt Tryz.prog 24 1 1 := ⟨_, _, Tryz.underlying24, rfl, rfl, by kernel_rfl⟩
theorem TrB_fld_24_2 : FieldAt Tryz.prog 24 2 2 := ⟨_, _, Tryz.underlying24, rfl, rfl, by kernel_rfl⟩
theorem TrB_fld_26_0 : FieldAt Tryz.prog 26 0 0 := ⟨_, _, Tryz.underlying26, rfl, rfl, by kernel_rfl⟩
theorem TrB_fld_26_1 : FieldAt Tryz.prog 26 1 3 := ⟨_, _, Tryz.underlying26, rfl, rfl, by kernel_rfl⟩
theorem TrB_fld_30_0 : FieldAt Tryz.prog 30 0 0 := ⟨_, _, Tryz.underlying30, rfl, rfl, by kernel_rfl⟩
theorem TrB_fld_30_1 : FieldAt Tryz.prog 30 1 1 := ⟨_, _, Tryz.underlying30, rfl, rfl, by kernel_rfl⟩
theorem TrB_fld_30_2 : FieldAt Tryz.prog 30 2 2 := ⟨_, _, Tryz.underlying30, rfl, rfl, by kernel_rfl⟩
theorem TrB_fld_30_3 : FieldAt Tryz.prog 30 3 8 := ⟨_, _, Tryz.underlying30, rfl, rfl, by kernel_rfl⟩
theorem TrB_fld_30_4 : FieldAt Tryz.prog 30 4 9 := ⟨_, _, Tryz.underlying30, rfl, rfl, by kernel_rfl⟩
theorem TrB_fld_30_5 : FieldAt Tryz.prog 30 5 10 := ⟨_, _, Tryz.underlying30, rfl, rfl, by kernel_rfl⟩
theorem TrB_isS_24 : IsS Tryz.prog 24 3 := ⟨⟨_, Tryz.underlying24⟩, by kernel_rfl⟩
theorem TrB_isS_26 : IsS Tryz.prog 26 6 := ⟨⟨_, Tryz.underlying26⟩, by kernel_rfl⟩
theorem TrB_isS_30 : IsS Tryz.prog 30 11 := ⟨⟨_, Tryz.underlying30⟩, by kernel_rfl⟩
/-- The library's tables of characters are there. -/
def Tabs8 (w : World) : Prop := Lib.Utf8Tabs (Tryz.laysValid_ren.g 3) (Tryz.laysValid_ren.g 4) w
theorem Tabs8.below {w w' : World} (h : Tabs8 w) (hb : Below w.heap.size w w') : Tabs8 w' := Utf8Tabs_below h hb
theorem ye {w : World} {s : ByteArray} (hs : s.size ≤ 9223372036854775807) (hT : Tabs8 w) {b : Bool} (h : okS s = b) : Calls Tryz.prog 73 #[.string s] w fun e w' => e = .returned (.bool b) ∧ Below w.heap.size w w' := h ▸ Any.utf8_ValidString Tryz.laysValid s w hs hT
theorem zdi {w : World} {r : Int} : Calls Tryz.prog 95 #[.int .i32 r] w fun e w' => e = .returned (.bool (Lib.validRune r)) ∧ Below w.heap.size w w' := (Tryz.utf8_ValidRune r w).mono fun e w' ⟨h, e2⟩ => ⟨h, e2 ▸ Below.refl _ _⟩
theorem qri {P : Program} {s d : TypeId} (hs : P.underlying s = some (.int .i64)) (hd : P.underlying d = some (.int .i32)) {n : Int} (h0 : 0 ≤ n) (h1 : n ≤ 1114111) : ∀ w, (convert s d (.int .i64 n)).run P w = .ok (.int .i32 n) w := fun w => by
 simp [go_sem, run_underlying hs, run_underlying hd, convert]
 exact in_i32 (by omega) (by omega)
theorem qvd {w : World} {n : Int} : Calls Tryz.prog 72 #[.int .i64 n] w fun e w' => e = .returned (.bool (vz n)) ∧ Below w.heap.size w w' := by
 have M : Mg w w ([]) := Mg.start w
 refine qm (l := [(0, .int .i64 n)]) Tryz.func72 rfl Tryz.ntmps72 rfl rfl ?_
 intro Q hret hnorm hP a A
 refine wsk fun K1 hK1 => wrl (sda A λa A↦?_)
 refine qa (hK1 _ _ (wsk fun K2 hK2 => wrl (sdm A λa A↦?_)))
 rcases tf (decide (0 ≤ n)) with hb3 | hb3
 ·
  have hb3' := of_decide_eq_true hb3
  refine sdc A jh hb3 λa A↦?_
  iterate 2 refine sdm A λa A↦?_
  rcases tf (decide (n ≤ 1114111)) with hb4 | hb4
  ·
   have hb4' := of_decide_eq_true hb4
   refine sdc A vf hb4 λa A↦?_
   refine sdk (v := .bool true) A λa A↦?_
   iterate 2 refine sdm A λa A↦?_
   refine sdo (v := .int .i32 n) A (qt rfl (qri Tryz.underlying3 Tryz.underlying21 (by omega) (by omega))) λa A↦?_
   refine gcl A M (ef rfl rfl) (zdi) fun w5 hbv M a A => ?_
   refine sdo (v := .bool (Lib.validRune n)) A (ub rfl rfl rfl rfl) λa A↦?_
   refine sda A λa A↦?_
   refine qa (hK2 _ _ (wp_ret (hret _ _ (en1 A rfl (qf rfl) ?_))))
   exact ⟨by rw [show vz n = Lib.validRune n from by unfold vz; unfold Lib.validRune; exact decide_eq_decide.2 (by omega)], M.bel⟩
  ·
   have hb4' := of_decide_eq_false hb4
   refine sdc A vf hb4 λa A↦?_
   refine sdk (v := .bool false) A λa A↦?_
   refine sdm A λa A↦?_
   iterate 3 refine qh A rfl rfl rfl λa A↦?_
   refine sdk (v := .bool false) A λa A↦?_
   refine sda A λa A↦?_
   refine qa (hK2 _ _ (wp_ret (hret _ _ (en1 A rfl (qf rfl) ?_))))
   exact ⟨by rw [show vz n = false from by unfold vz; apply decide_eq_false; omega], M.bel⟩
 ·
  have hb3' := of_decide_eq_false hb3
  refine sdc A jh hb3 λa A↦?_
  refine sdm A λa A↦?_
  iterate 2 refine qh A rfl rfl rfl λa A↦?_
  refine sdk (v := .bool false) A λa A↦?_
  refine sdm A λa A↦?_
  iterate 3 refine qh A rfl rfl rfl λa A↦?_
  refine sdk (v := .bool false) A λa A↦?_
  refine sda A λa A↦?_
  refine qa (hK2 _ _ (wp_ret (hret _ _ (en1 A rfl (qf rfl) ?_))))
  exact ⟨by rw [show vz n = false from by unfold vz; apply decide_eq_false; omega], M.bel⟩
theorem qlc {m1 m2 : Nat} (h1 : m1 ≤ 9223372036854775807) (h2 : m2 ≤ 9223372036854775807) : (IntKind.i64.wrap (((m1 : Nat) : Int) + ((m2 : Nat) : Int)) == 0) = (decide (m1 = 0) && decide (m2 = 0)) := by
 rw [IntKind.wrap_i64]
 by_cases a1 : m1 = 0
 ·
  subst a1
  by_cases a2 : m2 = 0
  ·
   subst a2; rfl
  ·
   simp [a2]; omega
 ·
  simp [a1]; omega
theorem ya {w : World} {b : Bool} {o1 o2 : Option Addr} {m1 m2 c1 c2 : Nat} (h1 : m1 ≤ 9223372036854775807) (h2 : m2 ≤ 9223372036854775807) {r : Bool} (hr : kg b m1 m2 = r) : Calls Tryz.prog 97 #[.agg #[.bool b, .slice o1 m1 c1, .slice o2 m2 c2]] w fun e w' => e = .returned (.bool r) ∧ Below w.heap.size w w' := by
 have M : Mg w w ([]) := Mg.start w
 refine qm (l := [(0, .agg #[.bool b, .slice o1 m1 c1, .slice o2 m2 c2])]) Tryz.func97 rfl Tryz.ntmps97 rfl rfl ?_
 intro Q hret hnorm hP a A
 refine wsk fun K1 hK1 => wrl (xa (vs := [.bool b, .slice o1 m1 c1, .slice o2 m2 c2]) (t := 24) A M rfl rfl rfl pg (zb rfl rfl) (by decide) ?_)
 intro g2 w3 M a A
 refine sda A λa A↦?_
 refine qa (hK1 _ _ (wsk fun K4 hK4 => wrl (sdo (v := .pointer (some ⟨g2, 0, none⟩)) A (qb TrB_fld_24_0 rfl rfl) λa A↦?_)))
 refine sdo A (qk M TrB_is1_4 rfl 0 rfl rfl) λa A↦?_
 rcases b with _ | _
 ·
  refine sdo (v := .bool true) A (qy rfl zj) λa A↦?_
  refine sdm A λa A↦?_
  refine sdo (v := .pointer (some ⟨g2, 1, none⟩)) A (qb TrB_fld_24_1 rfl rfl) λa A↦?_
  refine sdo A (qk M TrB_is1_22 rfl 0 rfl rfl) λa A↦?_
  refine sdo A (qx Tryz.underlying22 rfl) λa A↦?_
  rcases tf ((((m1 : Nat) : Int) == 0)) with hb5 | hb5
  ·
   have hb5' := eq_of_beq hb5
   refine sdc A qg hb5 λa A↦?_
   refine sdk (v := .bool true) A λa A↦?_
   refine sdm A λa A↦?_
   refine sdo (v := .pointer (some ⟨g2, 2, none⟩)) A (qb TrB_fld_24_2 rfl rfl) λa A↦?_
   refine sdo A (qk M TrB_is1_22 rfl 0 rfl rfl) λa A↦?_
   refine sdo A (qx Tryz.underlying22 rfl) λa A↦?_
   rcases tf ((((m2 : Nat) : Int) == 0)) with hb6 | hb6
   ·
    have hb6' := eq_of_beq hb6
    refine sdc A qg hb6 λa A↦?_
    refine sdk (v := .bool true) A λa A↦?_
    refine sda A λa A↦?_
    refine qa (hK4 _ _ (wp_ret (hret _ _ (en1 A rfl (qf rfl) ?_))))
    subst hr
    exact ⟨by unfold kg; simp_all; try omega, M.bel⟩
   ·
    have hb6' := ne_of_beq_false hb6
    refine sdc A qg hb6 λa A↦?_
    refine sdk (v := .bool false) A λa A↦?_
    refine sda A λa A↦?_
    refine qa (hK4 _ _ (wp_ret (hret _ _ (en1 A rfl (qf rfl) ?_))))
    subst hr
    exact ⟨by unfold kg; simp_all; try omega, M.bel⟩
  ·
   have hb5' := ne_of_beq_false hb5
   refine sdc A qg hb5 λa A↦?_
   refine sdk (v := .bool false) A λa A↦?_
   refine sdm A λa A↦?_
   iterate 4 refine qh A rfl rfl rfl λa A↦?_
   refine sdk (v := .bool false) A λa A↦?_
   refine sda A λa A↦?_
   refine qa (hK4 _ _ (wp_ret (hret _ _ (en1 A rfl (qf rfl) ?_))))
   subst hr
   exact ⟨by unfold kg; simp_all; try omega, M.bel⟩
 ·
  refine sdo (v := .bool false) A (qy rfl zj) λa A↦?_
  refine sdm A λa A↦?_
  iterate 4 refine qh A rfl rfl rfl λa A↦?_
  refine sdk (v := .bool false) A λa A↦?_
  refine sdm A λa A↦?_
  iterate 4 refine qh A rfl rfl rfl λa A↦?_
  refine sdk (v := .bool false) A λa A↦?_
  refine sda A λa A↦?_
  refine qa (hK4 _ _ (wp_ret (hret _ _ (en1 A rfl (qf rfl) ?_))))
  subst hr
  exact ⟨by unfold kg; simp_all; try omega, M.bel⟩
theorem qcb {w : World} {b : Bool} {o1 o2 : Option Addr} {m1 m2 c1 c2 : Nat} (h1 : m1 ≤ 9223372036854775807) (h2 : m2 ≤ 9223372036854775807) {r : Bool} (hr : kg b m1 m2 = r) : Calls Tryz.prog 64 #[.agg #[.bool b, .slice o1 m1 c1, .slice o2 m2 c2]] w fun e w' => e = .returned (.bool r) ∧ Below w.heap.size w w' := by
 have M : Mg w w ([]) := Mg.start w
 refine qm (l := [(0, .agg #[.bool b, .slice o1 m1 c1, .slice o2 m2 c2])]) Tryz.func64 rfl Tryz.ntmps64 rfl rfl ?_
 intro Q hret hnorm hP a A
 refine wsk fun K1 hK1 => wrl (xa (vs := [.bool b, .slice o1 m1 c1, .slice o2 m2 c2]) (t := 24) A M rfl rfl rfl pg (zb rfl rfl) (by decide) ?_)
 intro g2 w3 M a A
 refine sda A λa A↦?_
 refine qa (hK1 _ _ (wsk fun K4 hK4 => wrl (sdo (v := .pointer (some ⟨g2, 0, none⟩)) A (qb TrB_fld_24_0 rfl rfl) λa A↦?_)))
 refine sdo A (qk M TrB_is1_4 rfl 0 rfl rfl) λa A↦?_
 rcases b with _ | _
 ·
  refine sdo (v := .bool true) A (qy rfl zj) λa A↦?_
  refine sdm A λa A↦?_
  refine sdo (v := .pointer (some ⟨g2, 1, none⟩)) A (qb TrB_fld_24_1 rfl rfl) λa A↦?_
  refine sdo A (qk M TrB_is1_22 rfl 0 rfl rfl) λa A↦?_
  refine sdo A (qx Tryz.underlying22 rfl) λa A↦?_
  refine sdo (v := .pointer (some ⟨g2, 2, none⟩)) A (qb TrB_fld_24_2 rfl rfl) λa A↦?_
  refine sdo A (qk M TrB_is1_22 rfl 0 rfl rfl) λa A↦?_
  refine sdo A (qx Tryz.underlying22 rfl) λa A↦?_
  refine sdo (v := .int .i64 (IntKind.i64.wrap (((m1 : Nat) : Int) + ((m2 : Nat) : Int)))) A (qe rfl rfl (ar_add rfl)) λa A↦?_
  rcases tf ((IntKind.i64.wrap (((m1 : Nat) : Int) + ((m2 : Nat) : Int)) == 0)) with hb5 | hb5
  ·
   have hb5' := eq_of_beq hb5
   refine sdc A qg hb5 λa A↦?_
   refine sdk (v := .bool true) A λa A↦?_
   refine sda A λa A↦?_
   refine qa (hK4 _ _ (wp_ret (hret _ _ (en1 A rfl (qf rfl) ?_))))
   subst hr
   have e9 := qlc h1 h2
   try rw [e9] at hb5
   exact ⟨by unfold kg; simp_all; try omega, M.bel⟩
  ·
   have hb5' := ne_of_beq_false hb5
   refine sdc A qg hb5 λa A↦?_
   refine sdk (v := .bool false) A λa A↦?_
   refine sda A λa A↦?_
   refine qa (hK4 _ _ (wp_ret (hret _ _ (en1 A rfl (qf rfl) ?_))))
   subst hr
   have e9 := qlc h1 h2
   try rw [e9] at hb5
   exact ⟨by unfold kg; simp_all; try omega, M.bel⟩
 ·
  refine sdo (v := .bool false) A (qy rfl zj) λa A↦?_
  refine sdm A λa A↦?_
  iterate 8 refine qh A rfl rfl rfl λa A↦?_
  refine sdk (v := .bool false) A λa A↦?_
  refine sda A λa A↦?_
  refine qa (hK4 _ _ (wp_ret (hret _ _ (en1 A rfl (qf rfl) ?_))))
  subst hr
  have e9 := qlc h1 h2
  exact ⟨by unfold kg; simp_all; try omega, M.bel⟩
theorem zja {w : World} {k n : Int} {b1 b2 : Bool} {o1 o2 o3 o4 ro lo : Option Addr} {m1 m2 m3 m4 mr ml c1 c2 c3 c4 rc lc : Nat} {s : ByteArray} (h1 : m1 ≤ 9223372036854775807) (h2 : m2 ≤ 9223372036854775807) (h3 : m3 ≤ 9223372036854775807) (h4 : m4 ≤ 9223372036854775807) {r : Bool} (hr : vl n b1 m1 m2 b2 m3 m4 s mr ml = r) : Calls Tryz.prog 74 #[.agg #[.int .i64 k, .int .i64 n, .bool b1, .slice o1 m1 c1, .slice o2 m2 c2, .bool b2, .slice o3 m3 c3, .slice o4 m4 c4, .string s, .slice ro mr rc, .slice lo ml lc]] w fun e w' => e = .returned (.bool r) ∧ Below w.heap.size w w' := by
 have M : Mg w w ([]) := Mg.start w
 refine qm (l := [(0, .agg #[.int .i64 k, .int .i64 n, .bool b1, .slice o1 m1 c1, .slice o2 m2 c2, .bool b2, .slice o3 m3 c3, .slice o4 m4 c4, .string s, .slice ro mr rc, .slice lo ml lc])]) Tryz.func74 rfl Tryz.ntmps74 rfl rfl ?_
 intro Q hret hnorm hP a A
 refine wsk fun K1 hK1 => wrl (xa (vs := [.int .i64 k, .int .i64 n, .bool b1, .slice o1 m1 c1, .slice o2 m2 c2, .bool b2, .slice o3 m3 c3, .slice o4 m4 c4, .string s, .slice ro mr rc, .slice lo ml lc]) (t := 30) A M rfl rfl rfl pg (zb rfl rfl) (by decide) ?_)
 intro g2 w3 M a A
 refine sda A λa A↦?_
 refine qa (hK1 _ _ (wsk fun K4 hK4 => wrl (sdo (v := .pointer (some ⟨g2, 1, none⟩)) A (qb TrB_fld_30_1 rfl rfl) λa A↦?_)))
 refine sdo A (qk M TrB_is1_3 rfl 0 rfl rfl) λa A↦?_
 rcases tf ((n == 0)) with hb5 | hb5
 ·
  have hb5' := eq_of_beq hb5
  refine sdc A qg hb5 λa A↦?_
  refine sdm A λa A↦?_
  refine sdo (v := .pointer (some ⟨g2, 2, none⟩)) A (qb TrB_fld_30_2 rfl rfl) λa A↦?_
  refine sdo (v := .pointer (some ⟨g2, 2, none⟩)) A (qb TrB_fld_26_0 rfl rfl) λa A↦?_
  refine sdo A (zn M TrB_isS_24 rfl 0 rfl (cs := [.bool b1, .slice o1 m1 c1, .slice o2 m2 c2]) rfl rfl) λa A↦?_
  rcases tf (kg b1 m1 m2) with hb6 | hb6
  ·
   refine gcl A M (ef rfl rfl) (ya h1 h2 hb6) fun w8 hb7 M a A => ?_
   refine sdk (v := .bool true) A λa A↦?_
   refine sdm A λa A↦?_
   refine sdo (v := .pointer (some ⟨g2, 2, none⟩)) A (qb TrB_fld_30_2 rfl rfl) λa A↦?_
   refine sdo (v := .pointer (some ⟨g2, 5, none⟩)) A (qb TrB_fld_26_1 rfl rfl) λa A↦?_
   refine sdo A (zn M TrB_isS_24 rfl 0 rfl (cs := [.bool b2, .slice o3 m3 c3, .slice o4 m4 c4]) rfl rfl) λa A↦?_
   rcases tf (kg b2 m3 m4) with hb9 | hb9
   ·
    refine gcl A M (ef rfl rfl) (ya h3 h4 hb9) fun w11 hb10 M a A => ?_
    refine sdk (v := .bool true) A λa A↦?_
    refine sdm A λa A↦?_
    refine sdo (v := .pointer (some ⟨g2, 8, none⟩)) A (qb TrB_fld_30_3 rfl rfl) λa A↦?_
    refine sdo A (qk M TrB_is1_9 rfl 0 rfl rfl) λa A↦?_
    rcases tf (decide (s = ⟨#[]⟩)) with hb12 | hb12
    ·
     have hb12' := of_decide_eq_true hb12
     refine sdo (v := .bool true) A (qe rfl rfl (fun w => (zl Tryz.underlying9 w).trans (by rw [hb12] <;> rfl))) λa A↦?_
     refine sdk (v := .bool true) A λa A↦?_
     refine sdm A λa A↦?_
     refine sdo (v := .pointer (some ⟨g2, 9, none⟩)) A (qb TrB_fld_30_4 rfl rfl) λa A↦?_
     refine sdo A (qk M TrB_is1_27 rfl 0 rfl rfl) λa A↦?_
     refine sdo A (qx Tryz.underlying27 rfl) λa A↦?_
     rcases tf ((((mr : Nat) : Int) == 0)) with hb13 | hb13
     ·
      have hb13' := eq_of_beq hb13
      refine sdc A qg hb13 λa A↦?_
      refine sdk (v := .bool true) A λa A↦?_
      refine sdm A λa A↦?_
      refine sdo (v := .pointer (some ⟨g2, 10, none⟩)) A (qb TrB_fld_30_5 rfl rfl) λa A↦?_
      refine sdo A (qk M TrB_is1_28 rfl 0 rfl rfl) λa A↦?_
      refine sdo A (qx Tryz.underlying28 rfl) λa A↦?_
      rcases tf ((((ml : Nat) : Int) == 0)) with hb14 | hb14
      ·
       have hb14' := eq_of_beq hb14
       refine sdc A qg hb14 λa A↦?_
       refine sdk (v := .bool true) A λa A↦?_
       refine sda A λa A↦?_
       refine qa (hK4 _ _ (wp_ret (hret _ _ (en1 A rfl (qf rfl) ?_))))
       subst hr
       exact ⟨by unfold vl; simp_all, M.bel⟩
      ·
       have hb14' := ne_of_beq_false hb14
       refine sdc A qg hb14 λa A↦?_
       refine sdk (v := .bool false) A λa A↦?_
       refine sda A λa A↦?_
       refine qa (hK4 _ _ (wp_ret (hret _ _ (en1 A rfl (qf rfl) ?_))))
       subst hr
       exact ⟨by unfold vl; simp_all, M.bel⟩
     ·
      have hb13' := ne_of_beq_false hb13
      refine sdc A qg hb13 λa A↦?_
      refine sdk (v := .bool false) A λa A↦?_
      refine sdm A λa A↦?_
      iterate 4 refine qh A rfl rfl rfl λa A↦?_
      refine sdk (v := .bool false) A λa A↦?_
      refine sda A λa A↦?_
      refine qa (hK4 _ _ (wp_ret (hret _ _ (en1 A rfl (qf rfl) ?_))))
      subst hr
      exact ⟨by unfold vl; simp_all, M.bel⟩
    ·
     have hb12' := of_decide_eq_false hb12
     refine sdo (v := .bool false) A (qe rfl rfl (fun w => (zl Tryz.underlying9 w).trans (by rw [hb12] <;> rfl))) λa A↦?_
     refine sdk (v := .bool false) A λa A↦?_
     refine sdm A λa A↦?_
     iterate 4 refine qh A rfl rfl rfl λa A↦?_
     refine sdk (v := .bool false) A λa A↦?_
     refine sdm A λa A↦?_
     iterate 4 refine qh A rfl rfl rfl λa A↦?_
     refine sdk (v := .bool false) A λa A↦?_
     refine sda A λa A↦?_
     refine qa (hK4 _ _ (wp_ret (hret _ _ (en1 A rfl (qf rfl) ?_))))
     subst hr
     exact ⟨by unfold vl; simp_all, M.bel⟩
   ·
    refine gcl A M (ef rfl rfl) (ya h3 h4 hb9) fun w16 hb15 M a A => ?_
    refine sdk (v := .bool false) A λa A↦?_
    refine sdm A λa A↦?_
    iterate 3 refine qh A rfl rfl rfl λa A↦?_
    refine sdk (v := .bool false) A λa A↦?_
    refine sdm A λa A↦?_
    iterate 4 refine qh A rfl rfl rfl λa A↦?_
    refine sdk (v := .bool false) A λa A↦?_
    refine sdm A λa A↦?_
    iterate 4 refine qh A rfl rfl rfl λa A↦?_
    refine sdk (v := .bool false) A λa A↦?_
    refine sda A λa A↦?_
    refine qa (hK4 _ _ (wp_ret (hret _ _ (en1 A rfl (qf rfl) ?_))))
    subst hr
    exact ⟨by unfold vl; simp_all, M.bel⟩
  ·
   refine gcl A M (ef rfl rfl) (ya h1 h2 hb6) fun w18 hb17 M a A => ?_
   refine sdk (v := .bool false) A λa A↦?_
   refine sdm A λa A↦?_
   iterate 4 refine qh A rfl rfl rfl λa A↦?_
   refine sdk (v := .bool false) A λa A↦?_
   refine sdm A λa A↦?_
   iterate 3 refine qh A rfl rfl rfl λa A↦?_
   refine sdk (v := .bool false) A λa A↦?_
   refine sdm A λa A↦?_
   iterate 4 refine qh A rfl rfl rfl λa A↦?_
   refine sdk (v := .bool false) A λa A↦?_
   refine sdm A λa A↦?_
   iterate 4 refine qh A rfl rfl rfl λa A↦?_
   refine sdk (v := .bool false) A λa A↦?_
   refine sda A λa A↦?_
   refine qa (hK4 _ _ (wp_ret (hret _ _ (en1 A rfl (qf rfl) ?_))))
   subst hr
   exact ⟨by unfold vl; simp_all, M.bel⟩
 ·
  have hb5' := ne_of_beq_false hb5
  refine sdc A qg hb5 λa A↦?_
  refine sdm A λa A↦?_
  iterate 4 refine qh A rfl rfl rfl λa A↦?_
  refine sdk (v := .bool false) A λa A↦?_
  refine sdm A λa A↦?_
  iterate 4 refine qh A rfl rfl rfl λa A↦?_
  refine sdk (v := .bool false) A λa A↦?_
  refine sdm A λa A↦?_
  iterate 3 refine qh A rfl rfl rfl λa A↦?_
  refine sdk (v := .bool false) A λa A↦?_
  refine sdm A λa A↦?_
  iterate 4 refine qh A rfl rfl rfl λa A↦?_
  refine sdk (v := .bool false) A λa A↦?_
  refine sdm A λa A↦?_
  iterate 4 refine qh A rfl rfl rfl λa A↦?_
  refine sdk (v := .bool false) A λa A↦?_
  refine sda A λa A↦?_
  refine qa (hK4 _ _ (wp_ret (hret _ _ (en1 A rfl (qf rfl) ?_))))
  subst hr
  exact ⟨by unfold vl; simp_all, M.bel⟩
theorem qld {w : World} {d : Nd} {ts : List Dt} (hok : NdOk w d) (hT : Tabs8 w) : Calls Tryz.prog 48 #[.agg (d.cells ts.length).toArray] w fun e w' => e = .returned (.bool (jj d.k d.n d.y.q d.s d.rl.length ts.length)) ∧ Below w.heap.size w w' := by
 have hq1 := hok.len.l1
 have hq2 := hok.len.l2
 have hq3 := hok.len.l3
 have hq4 := hok.len.l4
 have M : Mg w w ([]) := Mg.start w
 refine qm (l := [(0, .agg (d.cells ts.length).toArray)]) Tryz.func48 rfl Tryz.ntmps48 rfl rfl ?_
 intro Q hret hnorm hP a A
 refine wsk fun K1 hK1 => wrl (xa (vs := [.int .i64 d.k, .int .i64 d.n, .bool d.y.q.b1, .slice d.y.o1 d.y.q.t1.length d.y.c1, .slice d.y.o2 d.y.q.q1.length d.y.c2, .bool d.y.q.b2, .slice d.y.o3 d.y.q.t2.length d.y.c3, .slice d.y.o4 d.y.q.q2.length d.y.c4, .string d.s, .slice d.ro d.rl.length d.rc, .slice d.lo ts.length d.lc]) (t := 30) A M rfl rfl rfl pg (zb rfl rfl) (by decide) ?_)
 intro g2 w3 M a A
 refine sda A λa A↦?_
 refine qa (hK1 _ _ (wsk fun K4 hK4 => wrl (sda A λa A↦?_)))
 refine qa (hK4 _ _ (wsk fun K5 hK5 => ?_))
 have hJ6 : ∀ a w1, (∃ (ok : Bool) (z1 : Int) (z2 : Bool) (y1 : Option Addr) (m1 : Nat) (e1 : Nat) (y2 : Option Addr) (m2 : Nat) (e2 : Nat) (z3 : Bool) (y3 : Option Addr) (m3 : Nat) (e3 : Nat) (y4 : Option Addr) (m4 : Nat) (e4 : Nat) (zs : ByteArray) (yr : Option Addr) (mr : Nat) (er : Nat) (yl : Option Addr) (ml : Nat) (el : Nat), (jj d.k d.n d.y.q d.s d.rl.length ts.length = (ok && vl z1 z2 m1 m2 z3 m3 m4 zs mr ml) ∧ m1 ≤ 9223372036854775807 ∧ m2 ≤ 9223372036854775807 ∧ m3 ≤ 9223372036854775807 ∧ m4 ≤ 9223372036854775807) ∧ Sl a 59 [(0, .agg (d.cells ts.length).toArray), (1, .pointer (some ⟨g2, 0, none⟩)), (2, .bool false), (3, .bool ok)] ∧ Mg w w1 (.obj g2 (.cells #[.int .i64 d.k, .int .i64 z1, .bool z2, .slice y1 m1 e1, .slice y2 m2 e2, .bool z3, .slice y3 m3 e3, .slice y4 m4 e4, .string zs, .slice yr mr er, .slice yl ml el] 30) :: [])) → K5 a w1 := by
  clear A M
  rintro a w7 ⟨ok, z1, z2, y1, m1, e1, y2, m2, e2, z3, y3, m3, e3, y4, m4, e4, zs, yr, mr, er, yl, ml, el, hf8, A, M⟩
  obtain ⟨hsh, hq1, hq2, hq3, hq4⟩ := hf8
  refine hK5 _ _ (wsk fun K9 hK9 => wrl ?_)
  iterate 2 refine sdm A λa A↦?_
  rcases ok with _ | _
  ·
   iterate 2 refine qh A rfl rfl rfl λa A↦?_
   refine sdk (v := .bool false) A λa A↦?_
   refine sda A λa A↦?_
   refine qa (hK9 _ _ (wp_ret (hret _ _ (en1 A rfl (qf rfl) ?_))))
   exact ⟨by rw [hsh]; rfl, M.bel⟩
  ·
   refine sdo A (zn M TrB_isS_30 rfl 0 rfl (cs := [.int .i64 d.k, .int .i64 z1, .bool z2, .slice y1 m1 e1, .slice y2 m2 e2, .bool z3, .slice y3 m3 e3, .slice y4 m4 e4, .string zs, .slice yr mr er, .slice yl ml el]) rfl rfl) λa A↦?_
   refine gcl A M (ef rfl rfl) (zja (by first | exact hq1 | omega) (by first | exact hq2 | omega) (by first | exact hq3 | omega) (by first | exact hq4 | omega) rfl) fun w11 hb10 M a A => ?_
   refine sdo (v := .bool (vl z1 z2 m1 m2 z3 m3 m4 zs mr ml)) A (ub rfl rfl rfl rfl) λa A↦?_
   refine sda A λa A↦?_
   refine qa (hK9 _ _ (wp_ret (hret _ _ (en1 A rfl (qf rfl) ?_))))
   exact ⟨by rw [hsh]; rfl, M.bel⟩
 refine wsk fun K12 hK12 => wrl (sdo (v := .pointer (some ⟨g2, 0, none⟩)) A (qb TrB_fld_30_0 rfl rfl) λa A↦?_)
 refine sdo A (qk M TrB_is1_3 rfl 0 rfl rfl) λa A↦?_
 refine qa (hK12 _ _ (wp_block (wsk fun K13 hK13 => wsk fun K14 hK14 => wrl ?_)))
 rcases tf ((d.k == 1)) with hb15 | hb15
 ·
  have hb15' := eq_of_beq hb15
  refine sdc A qg hb15 λa A↦?_
  refine sda A λa A↦?_
  refine qa (hK14 _ _ (wp_cond_true (A.ev rfl) ?_))
  refine wp_skip (hK13 _ _ (wp_cond_true (A.ev rfl) ?_))
  refine wp_skip ?_
  exact hJ6 _ _ ⟨true, d.n, d.y.q.b1, d.y.o1, d.y.q.t1.length, d.y.c1, d.y.o2, d.y.q.q1.length, d.y.c2, d.y.q.b2, d.y.o3, d.y.q.t2.length, d.y.c3, d.y.o4, d.y.q.q2.length, d.y.c4, d.s, d.ro, d.rl.length, d.rc, d.lo, ts.length, d.lc, ⟨by
   unfold jj
   repeat (first | rw [if_pos (by omega)] | rw [if_neg (by omega)])
   first | rfl, by first | exact hq1 | decide, by first | exact hq2 | decide, by first | exact hq3 | decide, by first | exact hq4 | decide⟩, A.keep _ ⟨rfl, rfl, rfl, rfl, trivial⟩, M⟩
 ·
  have hb15' := ne_of_beq_false hb15
  refine sdc A qg hb15 λa A↦?_
  refine sda A λa A↦?_
  refine qa (hK14 _ _ (wp_cond_false (A.ev rfl) ?_))
  refine wrl ?_
  rcases tf ((d.k == 10)) with hb16 | hb16
  ·
   have hb16' := eq_of_beq hb16
   refine sdc A qg hb16 λa A↦?_
   refine sda A λa A↦?_
   refine qa (hK13 _ _ (wp_cond_true (A.ev rfl) ?_))
   refine wp_skip ?_
   exact hJ6 _ _ ⟨true, d.n, d.y.q.b1, d.y.o1, d.y.q.t1.length, d.y.c1, d.y.o2, d.y.q.q1.length, d.y.c2, d.y.q.b2, d.y.o3, d.y.q.t2.length, d.y.c3, d.y.o4, d.y.q.q2.length, d.y.c4, d.s, d.ro, d.rl.length, d.rc, d.lo, ts.length, d.lc, ⟨by
    unfold jj
    repeat (first | rw [if_pos (by omega)] | rw [if_neg (by omega)])
    first | rfl, by first | exact hq1 | decide, by first | exact hq2 | decide, by first | exact hq3 | decide, by first | exact hq4 | decide⟩, A.keep _ ⟨rfl, rfl, rfl, rfl, trivial⟩, M⟩
  ·
   have hb16' := ne_of_beq_false hb16
   refine sdc A qg hb16 λa A↦?_
   refine sda A λa A↦?_
   refine qa (hK13 _ _ (wp_cond_false (A.ev rfl) ?_))
   refine wsk fun K17 hK17 => wrl ?_
   rcases tf ((d.k == 2)) with hb18 | hb18
   ·
    have hb18' := eq_of_beq hb18
    refine sdc A qg hb18 λa A↦?_
    refine sda A λa A↦?_
    refine qa (hK17 _ _ (wp_cond_true (A.ev rfl) ?_))
    refine wrl (sdo (v := .pointer (some ⟨g2, 1, none⟩)) A (qb TrB_fld_30_1 rfl rfl) λa A↦?_)
    refine sdo A (qk M TrB_is1_3 rfl 0 rfl rfl) λa A↦?_
    rcases tf ((d.n == 0)) with hb19 | hb19
    ·
     have hb19' := eq_of_beq hb19
     refine sdc A qg hb19 λa A↦?_
     refine sdm A λa A↦?_
     iterate 3 refine qh A rfl rfl rfl λa A↦?_
     refine sdk (v := .bool true) A λa A↦?_
     refine sda A λa A↦?_
     refine sdo (v := .pointer (some ⟨g2, 1, none⟩)) A (qb TrB_fld_30_1 rfl rfl) λa A↦?_
     refine qz (us := [.int .i64 d.k, .int .i64 0, .bool d.y.q.b1, .slice d.y.o1 d.y.q.t1.length d.y.c1, .slice d.y.o2 d.y.q.q1.length d.y.c2, .bool d.y.q.b2, .slice d.y.o3 d.y.q.t2.length d.y.c3, .slice d.y.o4 d.y.q.q2.length d.y.c4, .string d.s, .slice d.ro d.rl.length d.rc, .slice d.lo ts.length d.lc]) (L' := (.obj g2 (.cells #[.int .i64 d.k, .int .i64 0, .bool d.y.q.b1, .slice d.y.o1 d.y.q.t1.length d.y.c1, .slice d.y.o2 d.y.q.q1.length d.y.c2, .bool d.y.q.b2, .slice d.y.o3 d.y.q.t2.length d.y.c3, .slice d.y.o4 d.y.q.q2.length d.y.c4, .string d.s, .slice d.ro d.rl.length d.rc, .slice d.lo ts.length d.lc] 30) :: [])) A M rfl rfl (qw rfl rfl rfl (by kernel_rfl) M 0 rfl rfl rfl) 0 rfl rfl rfl ?_
     intro w20 M
     refine qa ?_
     exact hJ6 _ _ ⟨true, 0, d.y.q.b1, d.y.o1, d.y.q.t1.length, d.y.c1, d.y.o2, d.y.q.q1.length, d.y.c2, d.y.q.b2, d.y.o3, d.y.q.t2.length, d.y.c3, d.y.o4, d.y.q.q2.length, d.y.c4, d.s, d.ro, d.rl.length, d.rc, d.lo, ts.length, d.lc, ⟨by
      unfold jj
      repeat (first | rw [if_pos (by omega)] | rw [if_neg (by omega)])
      first | rfl | (rw [decide_eq_true (show (d.n = 0 ∨ d.n = 1) by omega)]), by first | exact hq1 | decide, by first | exact hq2 | decide, by first | exact hq3 | decide, by first | exact hq4 | decide⟩, A.keep _ ⟨rfl, rfl, rfl, rfl, trivial⟩, M⟩
    ·
     have hb19' := ne_of_beq_false hb19
     refine sdc A qg hb19 λa A↦?_
     refine sdm A λa A↦?_
     refine sdo (v := .pointer (some ⟨g2, 1, none⟩)) A (qb TrB_fld_30_1 rfl rfl) λa A↦?_
     refine sdo A (qk M TrB_is1_3 rfl 0 rfl rfl) λa A↦?_
     rcases tf ((d.n == 1)) with hb21 | hb21
     ·
      have hb21' := eq_of_beq hb21
      refine sdc A qg hb21 λa A↦?_
      refine sdk (v := .bool true) A λa A↦?_
      refine sda A λa A↦?_
      refine sdo (v := .pointer (some ⟨g2, 1, none⟩)) A (qb TrB_fld_30_1 rfl rfl) λa A↦?_
      refine qz (us := [.int .i64 d.k, .int .i64 0, .bool d.y.q.b1, .slice d.y.o1 d.y.q.t1.length d.y.c1, .slice d.y.o2 d.y.q.q1.length d.y.c2, .bool d.y.q.b2, .slice d.y.o3 d.y.q.t2.length d.y.c3, .slice d.y.o4 d.y.q.q2.length d.y.c4, .string d.s, .slice d.ro d.rl.length d.rc, .slice d.lo ts.length d.lc]) (L' := (.obj g2 (.cells #[.int .i64 d.k, .int .i64 0, .bool d.y.q.b1, .slice d.y.o1 d.y.q.t1.length d.y.c1, .slice d.y.o2 d.y.q.q1.length d.y.c2, .bool d.y.q.b2, .slice d.y.o3 d.y.q.t2.length d.y.c3, .slice d.y.o4 d.y.q.q2.length d.y.c4, .string d.s, .slice d.ro d.rl.length d.rc, .slice d.lo ts.length d.lc] 30) :: [])) A M rfl rfl (qw rfl rfl rfl (by kernel_rfl) M 0 rfl rfl rfl) 0 rfl rfl rfl ?_
      intro w22 M
      refine qa ?_
      exact hJ6 _ _ ⟨true, 0, d.y.q.b1, d.y.o1, d.y.q.t1.length, d.y.c1, d.y.o2, d.y.q.q1.length, d.y.c2, d.y.q.b2, d.y.o3, d.y.q.t2.length, d.y.c3, d.y.o4, d.y.q.q2.length, d.y.c4, d.s, d.ro, d.rl.length, d.rc, d.lo, ts.length, d.lc, ⟨by
       unfold jj
       repeat (first | rw [if_pos (by omega)] | rw [if_neg (by omega)])
       first | rfl | (rw [decide_eq_true (show (d.n = 0 ∨ d.n = 1) by omega)]), by first | exact hq1 | decide, by first | exact hq2 | decide, by first | exact hq3 | decide, by first | exact hq4 | decide⟩, A.keep _ ⟨rfl, rfl, rfl, rfl, trivial⟩, M⟩
     ·
      have hb21' := ne_of_beq_false hb21
      refine sdc A qg hb21 λa A↦?_
      refine sdk (v := .bool false) A λa A↦?_
      refine sda A λa A↦?_
      refine sdo (v := .pointer (some ⟨g2, 1, none⟩)) A (qb TrB_fld_30_1 rfl rfl) λa A↦?_
      refine qz (us := [.int .i64 d.k, .int .i64 0, .bool d.y.q.b1, .slice d.y.o1 d.y.q.t1.length d.y.c1, .slice d.y.o2 d.y.q.q1.length d.y.c2, .bool d.y.q.b2, .slice d.y.o3 d.y.q.t2.length d.y.c3, .slice d.y.o4 d.y.q.q2.length d.y.c4, .string d.s, .slice d.ro d.rl.length d.rc, .slice d.lo ts.length d.lc]) (L' := (.obj g2 (.cells #[.int .i64 d.k, .int .i64 0, .bool d.y.q.b1, .slice d.y.o1 d.y.q.t1.length d.y.c1, .slice d.y.o2 d.y.q.q1.length d.y.c2, .bool d.y.q.b2, .slice d.y.o3 d.y.q.t2.length d.y.c3, .slice d.y.o4 d.y.q.q2.length d.y.c4, .string d.s, .slice d.ro d.rl.length d.rc, .slice d.lo ts.length d.lc] 30) :: [])) A M rfl rfl (qw rfl rfl rfl (by kernel_rfl) M 0 rfl rfl rfl) 0 rfl rfl rfl ?_
      intro w23 M
      refine qa ?_
      exact hJ6 _ _ ⟨false, 0, d.y.q.b1, d.y.o1, d.y.q.t1.length, d.y.c1, d.y.o2, d.y.q.q1.length, d.y.c2, d.y.q.b2, d.y.o3, d.y.q.t2.length, d.y.c3, d.y.o4, d.y.q.q2.length, d.y.c4, d.s, d.ro, d.rl.length, d.rc, d.lo, ts.length, d.lc, ⟨by
       unfold jj
       repeat (first | rw [if_pos (by omega)] | rw [if_neg (by omega)])
       first | rfl | (rw [decide_eq_false (show ¬ (d.n = 0 ∨ d.n = 1) by omega)]), by first | exact hq1 | decide, by first | exact hq2 | decide, by first | exact hq3 | decide, by first | exact hq4 | decide⟩, A.keep _ ⟨rfl, rfl, rfl, rfl, trivial⟩, M⟩
   ·
    have hb18' := ne_of_beq_false hb18
    refine sdc A qg hb18 λa A↦?_
    refine sda A λa A↦?_
    refine qa (hK17 _ _ (wp_cond_false (A.ev rfl) ?_))
    refine wsk fun K24 hK24 => wrl ?_
    rcases tf ((d.k == 3)) with hb25 | hb25
    ·
     have hb25' := eq_of_beq hb25
     refine sdc A qg hb25 λa A↦?_
     refine sda A λa A↦?_
     refine qa (hK24 _ _ (wp_cond_true (A.ev rfl) ?_))
     refine wrl (sdo (v := .pointer (some ⟨g2, 2, none⟩)) A (qb TrB_fld_30_2 rfl rfl) λa A↦?_)
     refine sdo A (zn M TrB_isS_26 rfl 0 rfl (cs := [.bool d.y.q.b1, .slice d.y.o1 d.y.q.t1.length d.y.c1, .slice d.y.o2 d.y.q.q1.length d.y.c2, .bool d.y.q.b2, .slice d.y.o3 d.y.q.t2.length d.y.c3, .slice d.y.o4 d.y.q.q2.length d.y.c4]) rfl rfl) λa A↦?_
     rcases tf (jx d.y.q) with hb26 | hb26
     ·
      refine gcl A M (ef rfl rfl) (qda (Nu.below hok.num M.bel) hok.len hb26) fun w28 hb27 M a A => ?_
      refine sdo (v := .agg #[.bool false, .slice none 0 0, .slice none 0 0, .bool false, .slice none 0 0, .slice none 0 0]) A (jb rfl (fun w => by kernel_rfl)) λa A↦?_
      refine sda A λa A↦?_
      refine sdo (v := .pointer (some ⟨g2, 2, none⟩)) A (qb TrB_fld_30_2 rfl rfl) λa A↦?_
      refine qz (us := [.int .i64 d.k, .int .i64 d.n, .bool false, .slice none 0 0, .slice none 0 0, .bool false, .slice none 0 0, .slice none 0 0, .string d.s, .slice d.ro d.rl.length d.rc, .slice d.lo ts.length d.lc]) (L' := (.obj g2 (.cells #[.int .i64 d.k, .int .i64 d.n, .bool false, .slice none 0 0, .slice none 0 0, .bool false, .slice none 0 0, .slice none 0 0, .string d.s, .slice d.ro d.rl.length d.rc, .slice d.lo ts.length d.lc] 30) :: [])) A M rfl rfl (qw rfl rfl rfl (by kernel_rfl) M 0 rfl rfl rfl) 0 rfl rfl rfl ?_
      intro w29 M
      refine qa ?_
      exact hJ6 _ _ ⟨true, d.n, false, none, 0, 0, none, 0, 0, false, none, 0, 0, none, 0, 0, d.s, d.ro, d.rl.length, d.rc, d.lo, ts.length, d.lc, ⟨by
       unfold jj
       repeat (first | rw [if_pos (by omega)] | rw [if_neg (by omega)])
       first | rfl | rw [hb26], by first | exact hq1 | decide, by first | exact hq2 | decide, by first | exact hq3 | decide, by first | exact hq4 | decide⟩, A.keep _ ⟨rfl, rfl, rfl, rfl, trivial⟩, M⟩
     ·
      refine gcl A M (ef rfl rfl) (qda (Nu.below hok.num M.bel) hok.len hb26) fun w31 hb30 M a A => ?_
      refine sdo (v := .agg #[.bool false, .slice none 0 0, .slice none 0 0, .bool false, .slice none 0 0, .slice none 0 0]) A (jb rfl (fun w => by kernel_rfl)) λa A↦?_
      refine sda A λa A↦?_
      refine sdo (v := .pointer (some ⟨g2, 2, none⟩)) A (qb TrB_fld_30_2 rfl rfl) λa A↦?_
      refine qz (us := [.int .i64 d.k, .int .i64 d.n, .bool false, .slice none 0 0, .slice none 0 0, .bool false, .slice none 0 0, .slice none 0 0, .string d.s, .slice d.ro d.rl.length d.rc, .slice d.lo ts.length d.lc]) (L' := (.obj g2 (.cells #[.int .i64 d.k, .int .i64 d.n, .bool false, .slice none 0 0, .slice none 0 0, .bool false, .slice none 0 0, .slice none 0 0, .string d.s, .slice d.ro d.rl.length d.rc, .slice d.lo ts.length d.lc] 30) :: [])) A M rfl rfl (qw rfl rfl rfl (by kernel_rfl) M 0 rfl rfl rfl) 0 rfl rfl rfl ?_
      intro w32 M
      refine qa ?_
      exact hJ6 _ _ ⟨false, d.n, false, none, 0, 0, none, 0, 0, false, none, 0, 0, none, 0, 0, d.s, d.ro, d.rl.length, d.rc, d.lo, ts.length, d.lc, ⟨by
       unfold jj
       repeat (first | rw [if_pos (by omega)] | rw [if_neg (by omega)])
       first | rfl | rw [hb26], by first | exact hq1 | decide, by first | exact hq2 | decide, by first | exact hq3 | decide, by first | exact hq4 | decide⟩, A.keep _ ⟨rfl, rfl, rfl, rfl, trivial⟩, M⟩
    ·
     have hb25' := ne_of_beq_false hb25
     refine sdc A qg hb25 λa A↦?_
     refine sda A λa A↦?_
     refine qa (hK24 _ _ (wp_cond_false (A.ev rfl) ?_))
     refine wsk fun K33 hK33 => wrl ?_
     rcases tf ((d.k == 4)) with hb34 | hb34
     ·
      have hb34' := eq_of_beq hb34
      refine sdc A qg hb34 λa A↦?_
      refine sda A λa A↦?_
      refine qa (hK33 _ _ (wp_cond_true (A.ev rfl) ?_))
      refine wrl (sdo (v := .pointer (some ⟨g2, 1, none⟩)) A (qb TrB_fld_30_1 rfl rfl) λa A↦?_)
      refine sdo A (qk M TrB_is1_3 rfl 0 rfl rfl) λa A↦?_
      rcases tf (vz d.n) with hb35 | hb35
      ·
       refine gcl A M (ef rfl rfl) ((hb35 ▸ qvd)) fun w37 hb36 M a A => ?_
       refine sda A λa A↦?_
       refine sdo (v := .pointer (some ⟨g2, 1, none⟩)) A (qb TrB_fld_30_1 rfl rfl) λa A↦?_
       refine qz (us := [.int .i64 d.k, .int .i64 0, .bool d.y.q.b1, .slice d.y.o1 d.y.q.t1.length d.y.c1, .slice d.y.o2 d.y.q.q1.length d.y.c2, .bool d.y.q.b2, .slice d.y.o3 d.y.q.t2.length d.y.c3, .slice d.y.o4 d.y.q.q2.length d.y.c4, .string d.s, .slice d.ro d.rl.length d.rc, .slice d.lo ts.length d.lc]) (L' := (.obj g2 (.cells #[.int .i64 d.k, .int .i64 0, .bool d.y.q.b1, .slice d.y.o1 d.y.q.t1.length d.y.c1, .slice d.y.o2 d.y.q.q1.length d.y.c2, .bool d.y.q.b2, .slice d.y.o3 d.y.q.t2.length d.y.c3, .slice d.y.o4 d.y.q.q2.length d.y.c4, .string d.s, .slice d.ro d.rl.length d.rc, .slice d.lo ts.length d.lc] 30) :: [])) A M rfl rfl (qw rfl rfl rfl (by kernel_rfl) M 0 rfl rfl rfl) 0 rfl rfl rfl ?_
       intro w38 M
       refine qa ?_
       exact hJ6 _ _ ⟨true, 0, d.y.q.b1, d.y.o1, d.y.q.t1.length, d.y.c1, d.y.o2, d.y.q.q1.length, d.y.c2, d.y.q.b2, d.y.o3, d.y.q.t2.length, d.y.c3, d.y.o4, d.y.q.q2.length, d.y.c4, d.s, d.ro, d.rl.length, d.rc, d.lo, ts.length, d.lc, ⟨by
        unfold jj
        repeat (first | rw [if_pos (by omega)] | rw [if_neg (by omega)])
        first | rfl | rw [hb35], by first | exact hq1 | decide, by first | exact hq2 | decide, by first | exact hq3 | decide, by first | exact hq4 | decide⟩, A.keep _ ⟨rfl, rfl, rfl, rfl, trivial⟩, M⟩
      ·
       refine gcl A M (ef rfl rfl) ((hb35 ▸ qvd)) fun w40 hb39 M a A => ?_
       refine sda A λa A↦?_
       refine sdo (v := .pointer (some ⟨g2, 1, none⟩)) A (qb TrB_fld_30_1 rfl rfl) λa A↦?_
       refine qz (us := [.int .i64 d.k, .int .i64 0, .bool d.y.q.b1, .slice d.y.o1 d.y.q.t1.length d.y.c1, .slice d.y.o2 d.y.q.q1.length d.y.c2, .bool d.y.q.b2, .slice d.y.o3 d.y.q.t2.length d.y.c3, .slice d.y.o4 d.y.q.q2.length d.y.c4, .string d.s, .slice d.ro d.rl.length d.rc, .slice d.lo ts.length d.lc]) (L' := (.obj g2 (.cells #[.int .i64 d.k, .int .i64 0, .bool d.y.q.b1, .slice d.y.o1 d.y.q.t1.length d.y.c1, .slice d.y.o2 d.y.q.q1.length d.y.c2, .bool d.y.q.b2, .slice d.y.o3 d.y.q.t2.length d.y.c3, .slice d.y.o4 d.y.q.q2.length d.y.c4, .string d.s, .slice d.ro d.rl.length d.rc, .slice d.lo ts.length d.lc] 30) :: [])) A M rfl rfl (qw rfl rfl rfl (by kernel_rfl) M 0 rfl rfl rfl) 0 rfl rfl rfl ?_
       intro w41 M
       refine qa ?_
       exact hJ6 _ _ ⟨false, 0, d.y.q.b1, d.y.o1, d.y.q.t1.length, d.y.c1, d.y.o2, d.y.q.q1.length, d.y.c2, d.y.q.b2, d.y.o3, d.y.q.t2.length, d.y.c3, d.y.o4, d.y.q.q2.length, d.y.c4, d.s, d.ro, d.rl.length, d.rc, d.lo, ts.length, d.lc, ⟨by
        unfold jj
        repeat (first | rw [if_pos (by omega)] | rw [if_neg (by omega)])
        first | rfl | rw [hb35], by first | exact hq1 | decide, by first | exact hq2 | decide, by first | exact hq3 | decide, by first | exact hq4 | decide⟩, A.keep _ ⟨rfl, rfl, rfl, rfl, trivial⟩, M⟩
     ·
      have hb34' := ne_of_beq_false hb34
      refine sdc A qg hb34 λa A↦?_
      refine sda A λa A↦?_
      refine qa (hK33 _ _ (wp_cond_false (A.ev rfl) ?_))
      refine wsk fun K42 hK42 => wsk fun K43 hK43 => wrl ?_
      rcases tf ((d.k == 5)) with hb44 | hb44
      ·
       have hb44' := eq_of_beq hb44
       refine sdc A qg hb44 λa A↦?_
       refine sda A λa A↦?_
       refine qa (hK43 _ _ (wp_cond_true (A.ev rfl) ?_))
       refine wp_skip (hK42 _ _ (wp_cond_true (A.ev rfl) ?_))
       refine wrl (sdo (v := .pointer (some ⟨g2, 8, none⟩)) A (qb TrB_fld_30_3 rfl rfl) λa A↦?_)
       refine sdo A (qk M TrB_is1_9 rfl 0 rfl rfl) λa A↦?_
       rcases tf (okS d.s) with hb45 | hb45
       ·
        refine gcl A M (ef rfl rfl) (ye hok.smax (hT.below M.bel) hb45) fun w47 hb46 M a A => ?_
        refine sda A λa A↦?_
        refine sdo (v := .pointer (some ⟨g2, 8, none⟩)) A (qb TrB_fld_30_3 rfl rfl) λa A↦?_
        refine qz (us := [.int .i64 d.k, .int .i64 d.n, .bool d.y.q.b1, .slice d.y.o1 d.y.q.t1.length d.y.c1, .slice d.y.o2 d.y.q.q1.length d.y.c2, .bool d.y.q.b2, .slice d.y.o3 d.y.q.t2.length d.y.c3, .slice d.y.o4 d.y.q.q2.length d.y.c4, .string (⟨#[]⟩), .slice d.ro d.rl.length d.rc, .slice d.lo ts.length d.lc]) (L' := (.obj g2 (.cells #[.int .i64 d.k, .int .i64 d.n, .bool d.y.q.b1, .slice d.y.o1 d.y.q.t1.length d.y.c1, .slice d.y.o2 d.y.q.q1.length d.y.c2, .bool d.y.q.b2, .slice d.y.o3 d.y.q.t2.length d.y.c3, .slice d.y.o4 d.y.q.q2.length d.y.c4, .string (⟨#[]⟩), .slice d.ro d.rl.length d.rc, .slice d.lo ts.length d.lc] 30) :: [])) A M rfl rfl (qw rfl rfl rfl (by kernel_rfl) M 0 rfl rfl rfl) 0 rfl rfl rfl ?_
        intro w48 M
        refine qa ?_
        exact hJ6 _ _ ⟨true, d.n, d.y.q.b1, d.y.o1, d.y.q.t1.length, d.y.c1, d.y.o2, d.y.q.q1.length, d.y.c2, d.y.q.b2, d.y.o3, d.y.q.t2.length, d.y.c3, d.y.o4, d.y.q.q2.length, d.y.c4, ⟨#[]⟩, d.ro, d.rl.length, d.rc, d.lo, ts.length, d.lc, ⟨by
         unfold jj
         repeat (first | rw [if_pos (by omega)] | rw [if_neg (by omega)])
         first | rfl | rw [hb45], by first | exact hq1 | decide, by first | exact hq2 | decide, by first | exact hq3 | decide, by first | exact hq4 | decide⟩, A.keep _ ⟨rfl, rfl, rfl, rfl, trivial⟩, M⟩
       ·
        refine gcl A M (ef rfl rfl) (ye hok.smax (hT.below M.bel) hb45) fun w50 hb49 M a A => ?_
        refine sda A λa A↦?_
        refine sdo (v := .pointer (some ⟨g2, 8, none⟩)) A (qb TrB_fld_30_3 rfl rfl) λa A↦?_
        refine qz (us := [.int .i64 d.k, .int .i64 d.n, .bool d.y.q.b1, .slice d.y.o1 d.y.q.t1.length d.y.c1, .slice d.y.o2 d.y.q.q1.length d.y.c2, .bool d.y.q.b2, .slice d.y.o3 d.y.q.t2.length d.y.c3, .slice d.y.o4 d.y.q.q2.length d.y.c4, .string (⟨#[]⟩), .slice d.ro d.rl.length d.rc, .slice d.lo ts.length d.lc]) (L' := (.obj g2 (.cells #[.int .i64 d.k, .int .i64 d.n, .bool d.y.q.b1, .slice d.y.o1 d.y.q.t1.length d.y.c1, .slice d.y.o2 d.y.q.q1.length d.y.c2, .bool d.y.q.b2, .slice d.y.o3 d.y.q.t2.length d.y.c3, .slice d.y.o4 d.y.q.q2.length d.y.c4, .string (⟨#[]⟩), .slice d.ro d.rl.length d.rc, .slice d.lo ts.length d.lc] 30) :: [])) A M rfl rfl (qw rfl rfl rfl (by kernel_rfl) M 0 rfl rfl rfl) 0 rfl rfl rfl ?_
        intro w51 M
        refine qa ?_
        exact hJ6 _ _ ⟨false, d.n, d.y.q.b1, d.y.o1, d.y.q.t1.length, d.y.c1, d.y.o2, d.y.q.q1.length, d.y.c2, d.y.q.b2, d.y.o3, d.y.q.t2.length, d.y.c3, d.y.o4, d.y.q.q2.length, d.y.c4, ⟨#[]⟩, d.ro, d.rl.length, d.rc, d.lo, ts.length, d.lc, ⟨by
         unfold jj
         repeat (first | rw [if_pos (by omega)] | rw [if_neg (by omega)])
         first | rfl | rw [hb45], by first | exact hq1 | decide, by first | exact hq2 | decide, by first | exact hq3 | decide, by first | exact hq4 | decide⟩, A.keep _ ⟨rfl, rfl, rfl, rfl, trivial⟩, M⟩
      ·
       have hb44' := ne_of_beq_false hb44
       refine sdc A qg hb44 λa A↦?_
       refine sda A λa A↦?_
       refine qa (hK43 _ _ (wp_cond_false (A.ev rfl) ?_))
       refine wsk fun K52 hK52 => wrl ?_
       rcases tf ((d.k == 6)) with hb53 | hb53
       ·
        have hb53' := eq_of_beq hb53
        refine sdc A qg hb53 λa A↦?_
        refine sda A λa A↦?_
        refine qa (hK52 _ _ (wp_cond_true (A.ev rfl) ?_))
        refine wp_skip (hK42 _ _ (wp_cond_true (A.ev rfl) ?_))
        refine wrl (sdo (v := .pointer (some ⟨g2, 8, none⟩)) A (qb TrB_fld_30_3 rfl rfl) λa A↦?_)
        refine sdo A (qk M TrB_is1_9 rfl 0 rfl rfl) λa A↦?_
        rcases tf (okS d.s) with hb54 | hb54
        ·
         refine gcl A M (ef rfl rfl) (ye hok.smax (hT.below M.bel) hb54) fun w56 hb55 M a A => ?_
         refine sda A λa A↦?_
         refine sdo (v := .pointer (some ⟨g2, 8, none⟩)) A (qb TrB_fld_30_3 rfl rfl) λa A↦?_
         refine qz (us := [.int .i64 d.k, .int .i64 d.n, .bool d.y.q.b1, .slice d.y.o1 d.y.q.t1.length d.y.c1, .slice d.y.o2 d.y.q.q1.length d.y.c2, .bool d.y.q.b2, .slice d.y.o3 d.y.q.t2.length d.y.c3, .slice d.y.o4 d.y.q.q2.length d.y.c4, .string (⟨#[]⟩), .slice d.ro d.rl.length d.rc, .slice d.lo ts.length d.lc]) (L' := (.obj g2 (.cells #[.int .i64 d.k, .int .i64 d.n, .bool d.y.q.b1, .slice d.y.o1 d.y.q.t1.length d.y.c1, .slice d.y.o2 d.y.q.q1.length d.y.c2, .bool d.y.q.b2, .slice d.y.o3 d.y.q.t2.length d.y.c3, .slice d.y.o4 d.y.q.q2.length d.y.c4, .string (⟨#[]⟩), .slice d.ro d.rl.length d.rc, .slice d.lo ts.length d.lc] 30) :: [])) A M rfl rfl (qw rfl rfl rfl (by kernel_rfl) M 0 rfl rfl rfl) 0 rfl rfl rfl ?_
         intro w57 M
         refine qa ?_
         exact hJ6 _ _ ⟨true, d.n, d.y.q.b1, d.y.o1, d.y.q.t1.length, d.y.c1, d.y.o2, d.y.q.q1.length, d.y.c2, d.y.q.b2, d.y.o3, d.y.q.t2.length, d.y.c3, d.y.o4, d.y.q.q2.length, d.y.c4, ⟨#[]⟩, d.ro, d.rl.length, d.rc, d.lo, ts.length, d.lc, ⟨by
          unfold jj
          repeat (first | rw [if_pos (by omega)] | rw [if_neg (by omega)])
          first | rfl | rw [hb54], by first | exact hq1 | decide, by first | exact hq2 | decide, by first | exact hq3 | decide, by first | exact hq4 | decide⟩, A.keep _ ⟨rfl, rfl, rfl, rfl, trivial⟩, M⟩
        ·
         refine gcl A M (ef rfl rfl) (ye hok.smax (hT.below M.bel) hb54) fun w59 hb58 M a A => ?_
         refine sda A λa A↦?_
         refine sdo (v := .pointer (some ⟨g2, 8, none⟩)) A (qb TrB_fld_30_3 rfl rfl) λa A↦?_
         refine qz (us := [.int .i64 d.k, .int .i64 d.n, .bool d.y.q.b1, .slice d.y.o1 d.y.q.t1.length d.y.c1, .slice d.y.o2 d.y.q.q1.length d.y.c2, .bool d.y.q.b2, .slice d.y.o3 d.y.q.t2.length d.y.c3, .slice d.y.o4 d.y.q.q2.length d.y.c4, .string (⟨#[]⟩), .slice d.ro d.rl.length d.rc, .slice d.lo ts.length d.lc]) (L' := (.obj g2 (.cells #[.int .i64 d.k, .int .i64 d.n, .bool d.y.q.b1, .slice d.y.o1 d.y.q.t1.length d.y.c1, .slice d.y.o2 d.y.q.q1.length d.y.c2, .bool d.y.q.b2, .slice d.y.o3 d.y.q.t2.length d.y.c3, .slice d.y.o4 d.y.q.q2.length d.y.c4, .string (⟨#[]⟩), .slice d.ro d.rl.length d.rc, .slice d.lo ts.length d.lc] 30) :: [])) A M rfl rfl (qw rfl rfl rfl (by kernel_rfl) M 0 rfl rfl rfl) 0 rfl rfl rfl ?_
         intro w60 M
         refine qa ?_
         exact hJ6 _ _ ⟨false, d.n, d.y.q.b1, d.y.o1, d.y.q.t1.length, d.y.c1, d.y.o2, d.y.q.q1.length, d.y.c2, d.y.q.b2, d.y.o3, d.y.q.t2.length, d.y.c3, d.y.o4, d.y.q.q2.length, d.y.c4, ⟨#[]⟩, d.ro, d.rl.length, d.rc, d.lo, ts.length, d.lc, ⟨by
          unfold jj
          repeat (first | rw [if_pos (by omega)] | rw [if_neg (by omega)])
          first | rfl | rw [hb54], by first | exact hq1 | decide, by first | exact hq2 | decide, by first | exact hq3 | decide, by first | exact hq4 | decide⟩, A.keep _ ⟨rfl, rfl, rfl, rfl, trivial⟩, M⟩
       ·
        have hb53' := ne_of_beq_false hb53
        refine sdc A qg hb53 λa A↦?_
        refine sda A λa A↦?_
        refine qa (hK52 _ _ (wp_cond_false (A.ev rfl) ?_))
        refine wrl ?_
        rcases tf ((d.k == 11)) with hb61 | hb61
        ·
         have hb61' := eq_of_beq hb61
         refine sdc A qg hb61 λa A↦?_
         refine sda A λa A↦?_
         refine qa (hK42 _ _ (wp_cond_true (A.ev rfl) ?_))
         refine wrl (sdo (v := .pointer (some ⟨g2, 8, none⟩)) A (qb TrB_fld_30_3 rfl rfl) λa A↦?_)
         refine sdo A (qk M TrB_is1_9 rfl 0 rfl rfl) λa A↦?_
         rcases tf (okS d.s) with hb62 | hb62
         ·
          refine gcl A M (ef rfl rfl) (ye hok.smax (hT.below M.bel) hb62) fun w64 hb63 M a A => ?_
          refine sda A λa A↦?_
          refine sdo (v := .pointer (some ⟨g2, 8, none⟩)) A (qb TrB_fld_30_3 rfl rfl) λa A↦?_
          refine qz (us := [.int .i64 d.k, .int .i64 d.n, .bool d.y.q.b1, .slice d.y.o1 d.y.q.t1.length d.y.c1, .slice d.y.o2 d.y.q.q1.length d.y.c2, .bool d.y.q.b2, .slice d.y.o3 d.y.q.t2.length d.y.c3, .slice d.y.o4 d.y.q.q2.length d.y.c4, .string (⟨#[]⟩), .slice d.ro d.rl.length d.rc, .slice d.lo ts.length d.lc]) (L' := (.obj g2 (.cells #[.int .i64 d.k, .int .i64 d.n, .bool d.y.q.b1, .slice d.y.o1 d.y.q.t1.length d.y.c1, .slice d.y.o2 d.y.q.q1.length d.y.c2, .bool d.y.q.b2, .slice d.y.o3 d.y.q.t2.length d.y.c3, .slice d.y.o4 d.y.q.q2.length d.y.c4, .string (⟨#[]⟩), .slice d.ro d.rl.length d.rc, .slice d.lo ts.length d.lc] 30) :: [])) A M rfl rfl (qw rfl rfl rfl (by kernel_rfl) M 0 rfl rfl rfl) 0 rfl rfl rfl ?_
          intro w65 M
          refine qa ?_
          exact hJ6 _ _ ⟨true, d.n, d.y.q.b1, d.y.o1, d.y.q.t1.length, d.y.c1, d.y.o2, d.y.q.q1.length, d.y.c2, d.y.q.b2, d.y.o3, d.y.q.t2.length, d.y.c3, d.y.o4, d.y.q.q2.length, d.y.c4, ⟨#[]⟩, d.ro, d.rl.length, d.rc, d.lo, ts.length, d.lc, ⟨by
           unfold jj
           repeat (first | rw [if_pos (by omega)] | rw [if_neg (by omega)])
           first | rfl | rw [hb62], by first | exact hq1 | decide, by first | exact hq2 | decide, by first | exact hq3 | decide, by first | exact hq4 | decide⟩, A.keep _ ⟨rfl, rfl, rfl, rfl, trivial⟩, M⟩
         ·
          refine gcl A M (ef rfl rfl) (ye hok.smax (hT.below M.bel) hb62) fun w67 hb66 M a A => ?_
          refine sda A λa A↦?_
          refine sdo (v := .pointer (some ⟨g2, 8, none⟩)) A (qb TrB_fld_30_3 rfl rfl) λa A↦?_
          refine qz (us := [.int .i64 d.k, .int .i64 d.n, .bool d.y.q.b1, .slice d.y.o1 d.y.q.t1.length d.y.c1, .slice d.y.o2 d.y.q.q1.length d.y.c2, .bool d.y.q.b2, .slice d.y.o3 d.y.q.t2.length d.y.c3, .slice d.y.o4 d.y.q.q2.length d.y.c4, .string (⟨#[]⟩), .slice d.ro d.rl.length d.rc, .slice d.lo ts.length d.lc]) (L' := (.obj g2 (.cells #[.int .i64 d.k, .int .i64 d.n, .bool d.y.q.b1, .slice d.y.o1 d.y.q.t1.length d.y.c1, .slice d.y.o2 d.y.q.q1.length d.y.c2, .bool d.y.q.b2, .slice d.y.o3 d.y.q.t2.length d.y.c3, .slice d.y.o4 d.y.q.q2.length d.y.c4, .string (⟨#[]⟩), .slice d.ro d.rl.length d.rc, .slice d.lo ts.length d.lc] 30) :: [])) A M rfl rfl (qw rfl rfl rfl (by kernel_rfl) M 0 rfl rfl rfl) 0 rfl rfl rfl ?_
          intro w68 M
          refine qa ?_
          exact hJ6 _ _ ⟨false, d.n, d.y.q.b1, d.y.o1, d.y.q.t1.length, d.y.c1, d.y.o2, d.y.q.q1.length, d.y.c2, d.y.q.b2, d.y.o3, d.y.q.t2.length, d.y.c3, d.y.o4, d.y.q.q2.length, d.y.c4, ⟨#[]⟩, d.ro, d.rl.length, d.rc, d.lo, ts.length, d.lc, ⟨by
           unfold jj
           repeat (first | rw [if_pos (by omega)] | rw [if_neg (by omega)])
           first | rfl | rw [hb62], by first | exact hq1 | decide, by first | exact hq2 | decide, by first | exact hq3 | decide, by first | exact hq4 | decide⟩, A.keep _ ⟨rfl, rfl, rfl, rfl, trivial⟩, M⟩
        ·
         have hb61' := ne_of_beq_false hb61
         refine sdc A qg hb61 λa A↦?_
         refine sda A λa A↦?_
         refine qa (hK42 _ _ (wp_cond_false (A.ev rfl) ?_))
         refine wsk fun K69 hK69 => wrl ?_
         rcases tf ((d.k == 7)) with hb70 | hb70
         ·
          have hb70' := eq_of_beq hb70
          refine sdc A qg hb70 λa A↦?_
          refine sda A λa A↦?_
          refine qa (hK69 _ _ (wp_cond_true (A.ev rfl) ?_))
          refine wrl (sdo (v := .pointer (some ⟨g2, 9, none⟩)) A (qb TrB_fld_30_4 rfl rfl) λa A↦?_)
          refine qz (us := [.int .i64 d.k, .int .i64 d.n, .bool d.y.q.b1, .slice d.y.o1 d.y.q.t1.length d.y.c1, .slice d.y.o2 d.y.q.q1.length d.y.c2, .bool d.y.q.b2, .slice d.y.o3 d.y.q.t2.length d.y.c3, .slice d.y.o4 d.y.q.q2.length d.y.c4, .string d.s, .slice none 0 0, .slice d.lo ts.length d.lc]) (L' := (.obj g2 (.cells #[.int .i64 d.k, .int .i64 d.n, .bool d.y.q.b1, .slice d.y.o1 d.y.q.t1.length d.y.c1, .slice d.y.o2 d.y.q.q1.length d.y.c2, .bool d.y.q.b2, .slice d.y.o3 d.y.q.t2.length d.y.c3, .slice d.y.o4 d.y.q.q2.length d.y.c4, .string d.s, .slice none 0 0, .slice d.lo ts.length d.lc] 30) :: [])) A M rfl rfl (qw rfl rfl rfl (by kernel_rfl) M 0 rfl rfl rfl) 0 rfl rfl rfl ?_
          intro w71 M
          refine qa ?_
          exact hJ6 _ _ ⟨true, d.n, d.y.q.b1, d.y.o1, d.y.q.t1.length, d.y.c1, d.y.o2, d.y.q.q1.length, d.y.c2, d.y.q.b2, d.y.o3, d.y.q.t2.length, d.y.c3, d.y.o4, d.y.q.q2.length, d.y.c4, d.s, none, 0, 0, d.lo, ts.length, d.lc, ⟨by
           unfold jj
           repeat (first | rw [if_pos (by omega)] | rw [if_neg (by omega)])
           first | rfl, by first | exact hq1 | decide, by first | exact hq2 | decide, by first | exact hq3 | decide, by first | exact hq4 | decide⟩, A.keep _ ⟨rfl, rfl, rfl, rfl, trivial⟩, M⟩
         ·
          have hb70' := ne_of_beq_false hb70
          refine sdc A qg hb70 λa A↦?_
          refine sda A λa A↦?_
          refine qa (hK69 _ _ (wp_cond_false (A.ev rfl) ?_))
          refine wsk fun K72 hK72 => wrl ?_
          rcases tf ((d.k == 8)) with hb73 | hb73
          ·
           have hb73' := eq_of_beq hb73
           refine sdc A qg hb73 λa A↦?_
           refine sda A λa A↦?_
           refine qa (hK72 _ _ (wp_cond_true (A.ev rfl) ?_))
           refine wrl (sdo (v := .pointer (some ⟨g2, 10, none⟩)) A (qb TrB_fld_30_5 rfl rfl) λa A↦?_)
           refine sdo A (qk M TrB_is1_28 rfl 0 rfl rfl) λa A↦?_
           refine sdo A (qx Tryz.underlying28 rfl) λa A↦?_
           rcases tf ((((ts.length : Nat) : Int) == 2)) with hb74 | hb74
           ·
            have hb74' := eq_of_beq hb74
            refine sdc A qg hb74 λa A↦?_
            refine sda A λa A↦?_
            refine sdo (v := .pointer (some ⟨g2, 10, none⟩)) A (qb TrB_fld_30_5 rfl rfl) λa A↦?_
            refine qz (us := [.int .i64 d.k, .int .i64 d.n, .bool d.y.q.b1, .slice d.y.o1 d.y.q.t1.length d.y.c1, .slice d.y.o2 d.y.q.q1.length d.y.c2, .bool d.y.q.b2, .slice d.y.o3 d.y.q.t2.length d.y.c3, .slice d.y.o4 d.y.q.q2.length d.y.c4, .string d.s, .slice d.ro d.rl.length d.rc, .slice none 0 0]) (L' := (.obj g2 (.cells #[.int .i64 d.k, .int .i64 d.n, .bool d.y.q.b1, .slice d.y.o1 d.y.q.t1.length d.y.c1, .slice d.y.o2 d.y.q.q1.length d.y.c2, .bool d.y.q.b2, .slice d.y.o3 d.y.q.t2.length d.y.c3, .slice d.y.o4 d.y.q.q2.length d.y.c4, .string d.s, .slice d.ro d.rl.length d.rc, .slice none 0 0] 30) :: [])) A M rfl rfl (qw rfl rfl rfl (by kernel_rfl) M 0 rfl rfl rfl) 0 rfl rfl rfl ?_
            intro w75 M
            refine qa ?_
            exact hJ6 _ _ ⟨true, d.n, d.y.q.b1, d.y.o1, d.y.q.t1.length, d.y.c1, d.y.o2, d.y.q.q1.length, d.y.c2, d.y.q.b2, d.y.o3, d.y.q.t2.length, d.y.c3, d.y.o4, d.y.q.q2.length, d.y.c4, d.s, d.ro, d.rl.length, d.rc, none, 0, 0, ⟨by
             unfold jj
             repeat (first | rw [if_pos (by omega)] | rw [if_neg (by omega)])
             first | rfl | (rw [decide_eq_true (show (ts.length = 2) by omega)]), by first | exact hq1 | decide, by first | exact hq2 | decide, by first | exact hq3 | decide, by first | exact hq4 | decide⟩, A.keep _ ⟨rfl, rfl, rfl, rfl, trivial⟩, M⟩
           ·
            have hb74' := ne_of_beq_false hb74
            refine sdc A qg hb74 λa A↦?_
            refine sda A λa A↦?_
            refine sdo (v := .pointer (some ⟨g2, 10, none⟩)) A (qb TrB_fld_30_5 rfl rfl) λa A↦?_
            refine qz (us := [.int .i64 d.k, .int .i64 d.n, .bool d.y.q.b1, .slice d.y.o1 d.y.q.t1.length d.y.c1, .slice d.y.o2 d.y.q.q1.length d.y.c2, .bool d.y.q.b2, .slice d.y.o3 d.y.q.t2.length d.y.c3, .slice d.y.o4 d.y.q.q2.length d.y.c4, .string d.s, .slice d.ro d.rl.length d.rc, .slice none 0 0]) (L' := (.obj g2 (.cells #[.int .i64 d.k, .int .i64 d.n, .bool d.y.q.b1, .slice d.y.o1 d.y.q.t1.length d.y.c1, .slice d.y.o2 d.y.q.q1.length d.y.c2, .bool d.y.q.b2, .slice d.y.o3 d.y.q.t2.length d.y.c3, .slice d.y.o4 d.y.q.q2.length d.y.c4, .string d.s, .slice d.ro d.rl.length d.rc, .slice none 0 0] 30) :: [])) A M rfl rfl (qw rfl rfl rfl (by kernel_rfl) M 0 rfl rfl rfl) 0 rfl rfl rfl ?_
            intro w76 M
            refine qa ?_
            exact hJ6 _ _ ⟨false, d.n, d.y.q.b1, d.y.o1, d.y.q.t1.length, d.y.c1, d.y.o2, d.y.q.q1.length, d.y.c2, d.y.q.b2, d.y.o3, d.y.q.t2.length, d.y.c3, d.y.o4, d.y.q.q2.length, d.y.c4, d.s, d.ro, d.rl.length, d.rc, none, 0, 0, ⟨by
             unfold jj
             repeat (first | rw [if_pos (by omega)] | rw [if_neg (by omega)])
             first | rfl | (rw [decide_eq_false (show ¬ (ts.length = 2) by omega)]), by first | exact hq1 | decide, by first | exact hq2 | decide, by first | exact hq3 | decide, by first | exact hq4 | decide⟩, A.keep _ ⟨rfl, rfl, rfl, rfl, trivial⟩, M⟩
          ·
           have hb73' := ne_of_beq_false hb73
           refine sdc A qg hb73 λa A↦?_
           refine sda A λa A↦?_
           refine qa (hK72 _ _ (wp_cond_false (A.ev rfl) ?_))
           refine wsk fun K77 hK77 => wrl ?_
           rcases tf ((d.k == 9)) with hb78 | hb78
           ·
            have hb78' := eq_of_beq hb78
            refine sdc A qg hb78 λa A↦?_
            refine sda A λa A↦?_
            refine qa (hK77 _ _ (wp_cond_true (A.ev rfl) ?_))
            refine wrl (sdo (v := .pointer (some ⟨g2, 10, none⟩)) A (qb TrB_fld_30_5 rfl rfl) λa A↦?_)
            refine qz (us := [.int .i64 d.k, .int .i64 d.n, .bool d.y.q.b1, .slice d.y.o1 d.y.q.t1.length d.y.c1, .slice d.y.o2 d.y.q.q1.length d.y.c2, .bool d.y.q.b2, .slice d.y.o3 d.y.q.t2.length d.y.c3, .slice d.y.o4 d.y.q.q2.length d.y.c4, .string d.s, .slice d.ro d.rl.length d.rc, .slice none 0 0]) (L' := (.obj g2 (.cells #[.int .i64 d.k, .int .i64 d.n, .bool d.y.q.b1, .slice d.y.o1 d.y.q.t1.length d.y.c1, .slice d.y.o2 d.y.q.q1.length d.y.c2, .bool d.y.q.b2, .slice d.y.o3 d.y.q.t2.length d.y.c3, .slice d.y.o4 d.y.q.q2.length d.y.c4, .string d.s, .slice d.ro d.rl.length d.rc, .slice none 0 0] 30) :: [])) A M rfl rfl (qw rfl rfl rfl (by kernel_rfl) M 0 rfl rfl rfl) 0 rfl rfl rfl ?_
            intro w79 M
            refine qa ?_
            exact hJ6 _ _ ⟨true, d.n, d.y.q.b1, d.y.o1, d.y.q.t1.length, d.y.c1, d.y.o2, d.y.q.q1.length, d.y.c2, d.y.q.b2, d.y.o3, d.y.q.t2.length, d.y.c3, d.y.o4, d.y.q.q2.length, d.y.c4, d.s, d.ro, d.rl.length, d.rc, none, 0, 0, ⟨by
             unfold jj
             repeat (first | rw [if_pos (by omega)] | rw [if_neg (by omega)])
             first | rfl, by first | exact hq1 | decide, by first | exact hq2 | decide, by first | exact hq3 | decide, by first | exact hq4 | decide⟩, A.keep _ ⟨rfl, rfl, rfl, rfl, trivial⟩, M⟩
           ·
            have hb78' := ne_of_beq_false hb78
            refine sdc A qg hb78 λa A↦?_
            refine sda A λa A↦?_
            refine qa (hK77 _ _ (wp_cond_false (A.ev rfl) ?_))
            refine wrl (sda A λa A↦?_)
            refine qa ?_
            exact hJ6 _ _ ⟨false, d.n, d.y.q.b1, d.y.o1, d.y.q.t1.length, d.y.c1, d.y.o2, d.y.q.q1.length, d.y.c2, d.y.q.b2, d.y.o3, d.y.q.t2.length, d.y.c3, d.y.o4, d.y.q.q2.length, d.y.c4, d.s, d.ro, d.rl.length, d.rc, d.lo, ts.length, d.lc, ⟨by
             unfold jj
             repeat (first | rw [if_pos (by omega)] | rw [if_neg (by omega)])
             first | rfl, by first | exact hq1 | decide, by first | exact hq2 | decide, by first | exact hq3 | decide, by first | exact hq4 | decide⟩, A.keep _ ⟨rfl, rfl, rfl, rfl, trivial⟩, M⟩
end Go.Proofs.YtabpjchfkbhfpaaGreatDoor.G
