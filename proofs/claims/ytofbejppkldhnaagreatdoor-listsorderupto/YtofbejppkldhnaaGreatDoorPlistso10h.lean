/- What joins say, of lists as they are. The walk of SortBy, where the firsts are characters. Bytes compared by the library. The walk of the document's utf8. Units of a text as rows; when a text has no bad byte. Walks of the document's Sound. The walk of the document's Sound. Walks of the order of numbers. Walks of small comparisons, and of the hash of lists. Walks of the order of data. Walks of Equal, Cmp and Hash. What is in order stays as it is when it is sorted; an order of some is made one of all. The walk of Sort. Walks of the document's sameness and order of numbers. The same trees. The walk of the document's sameness of data. The walk of the law of joined lists. The walk of ListsOrder. What a bound on the bulk of what is read gives. Transcoders that come in as arguments. Rows of bytes that come in as arguments; the first part of a row, and of a text. Data that come in as arguments. -/
import Derived.Test.YtofbejppkldhnaaGreatDoorPlistso10g
import Derived.Test.YtofbejppkldhnaaGreatDoorPlistso10f
import Derived.Test.YtofbejppkldhnaaGreatDoorPlistso10d
import Derived.Test.YtofbejppkldhnaaGreatDoorProg
import Derived.Test.YtofbejppkldhnaaGreatDoorShelf
import Derived.Lib.Bytealg
import Derived.WalkKit
import Derived.WalkSpells
import Derived.Lib.ConvBytes
import Derived.Test.YtofbejppkldhnaaGreatDoorPlistso10c
import Derived.Test.YtofbejppkldhnaaGreatDoorRows
import Derived.ProofKit
import Derived.OpenShut
import Derived.ChangeOld
import Derived.Lib.SmallJoins
import Derived.Deep.Strs
import Derived.Deep.Slices
namespace Go.Proofs.YtofbejppkldhnaaGreatDoor.G
open Go.RowKit
set_option linter.unusedVariables false
set_option linter.unusedSimpArgs false
/-- A list is sound. -/
def OkL (L : List Tr) : Prop := L.all (deepT 2) = true ∧ nodesL L + L.length + 1 ≤ 20000 ∧ L.all (allT shapeT) = true
theorem okL_iff (L : List Tr) : soundT shapeT (linkT L nilT) = true ↔ OkL L := by
  rw [sound_link]
  have h1 : deepT 1 nilT = true := by rfl
  have h2 : allT shapeT nilT = true := by rfl
  have h3 : nodesT nilT = 1 := by rfl
  rw [h3]
  unfold OkL
  constructor
  · rintro ⟨⟨a, _⟩, b, c, _⟩; exact ⟨a, b, c⟩
  · rintro ⟨a, b, c⟩; exact ⟨⟨a, h1⟩, b, c, h2⟩
theorem OkL.of {L M : List Tr} (h : OkL L) (hm : ∀ x ∈ M, x ∈ L) (hn : nodesL M + M.length ≤ nodesL L + L.length) : OkL M := ⟨List.all_eq_true.2 fun x hx => List.all_eq_true.1 h.1 x (hm x hx), by have := h.2.1; omega, List.all_eq_true.2 fun x hx => List.all_eq_true.1 h.2.2 x (hm x hx)⟩
theorem zero_unsound : soundT shapeT zeroT = false := by rfl
theorem ofS_yes {A : List Tr} (h : OkL A) : ofS A = linkT A nilT := by unfold ofS; rw [fitS_yes ((okL_iff A).2 h)]
theorem ofS_sound {A : List Tr} (h : soundT shapeT (ofS A) = true) : OkL A ∧ ofS A = linkT A nilT := by
  by_cases hc : soundT shapeT (linkT A nilT) = true
  · exact ⟨(okL_iff A).1 hc, ofS_yes ((okL_iff A).1 hc)⟩
  · unfold ofS at h
    rw [fitS_no (Bool.eq_false_iff.2 hc), zero_unsound] at h
    cases h
theorem rev_ok {A : List Tr} (h : OkL A) : revS (linkT A nilT) = (linkT A.reverse nilT, 0) := by
  unfold revS
  rw [if_neg (by rw [(okL_iff A).2 h]; decide), asList_link]
/-! ### How much the answers hold -/
theorem fit_bulk (xs : List Tr) (z : Tr) : (fitS xs z).1.bulk ≤ Tr.bulks xs + xs.length + z.bulk + 1 := by
  unfold fitS
  split
  · show (linkT xs z).bulk ≤ _; rw [link_bulk]; omega
  · show zeroT.bulk ≤ _; rw [show zeroT.bulk = 1 from rfl]; omega
theorem blen : ∀ xs : List Tr, xs.length ≤ Tr.bulks xs
  | [] => Nat.le_refl _
  | t :: xs => by
    have := blen xs
    have h2 : 1 ≤ t.bulk := by cases t; rw [trbulk_mk]; omega
    rw [Tr.bulks, List.length_cons]; omega
theorem of_bulk (xs : List Tr) : (ofS xs).bulk ≤ Tr.bulks xs + Tr.bulks xs + 2 := by
  have h1 := fit_bulk xs nilT
  have h2 := blen xs
  rw [show nilT.bulk = 1 from rfl] at h1
  unfold ofS
  omega
theorem rev_bulk (t : Tr) : (revS t).1.bulk ≤ t.bulk + 1 := by
  unfold revS
  split
  · show zeroT.bulk ≤ _; rw [show zeroT.bulk = 1 from rfl]; omega
  · cases h : asList t with
    | none => show zeroT.bulk ≤ _; rw [show zeroT.bulk = 1 from rfl]; omega
    | some xs =>
      have h1 := asList_bulk h
      have h2 : Tr.bulks xs.reverse = Tr.bulks xs := by
        have key : ∀ ts : List Tr, Tr.bulks ts.reverse = Tr.bulks ts := by
          intro ts
          induction ts with
          | nil => rfl
          | cons t ts ih => rw [List.reverse_cons, bulks_append, ih, Tr.bulks, Tr.bulks, Tr.bulks]; omega
        exact key xs
      show (linkT _ _).bulk ≤ _
      rw [link_bulk, h2, List.length_reverse, show nilT.bulk = 1 from rfl]
      omega
/-- The items of a datum, and the error. -/
noncomputable def itemS (t : Tr) : List Tr × Int :=
  if soundT shapeT t = false then ([], 2) else match asList t with
    | none => ([], 10)
    | some xs => (xs, 0)
theorem itemS_bad {t : Tr} (h : soundT shapeT t = false) : itemS t = ([], 2) := by unfold itemS; rw [if_pos h]
theorem itemS_none {t : Tr} (h : soundT shapeT t = true) (ha : asList t = none) : itemS t = ([], 10) := by unfold itemS; rw [if_neg (by rw [h]; decide), ha]
theorem itemS_some {t : Tr} {xs : List Tr} (h : soundT shapeT t = true) (ha : asList t = some xs) : itemS t = (xs, 0) := by unfold itemS; rw [if_neg (by rw [h]; decide), ha]
/-! ### A fixed fact -/
def bareD (k : Int) : Dt := .mk ⟨k, 0, ⟨Q6.zero, none, 0, none, 0, none, 0, none, 0⟩, ⟨#[]⟩, none, 0, [], none, 0⟩ []
theorem awake_of : revS (ofS [(bareD 2).tr, (bareD 10).tr]) = (linkT [(bareD 10).tr, (bareD 2).tr] nilT, 0) := by
  have h : OkL [(bareD 2).tr, (bareD 10).tr] := by
    unfold bareD
    rw [Dt.tr_mk, Dt.tr_mk]
    exact ⟨by rfl, by decide, by rfl⟩
  rw [ofS_yes h, rev_ok h]
  rfl
theorem two_bare (w : World) : ∀ t ∈ [bareD 2, bareD 10], t.rd w := fun t ht => by
  rcases List.mem_cons.1 ht with h | h
  · rw [h]; exact bare_rd w 2 (by decide) (by decide)
  · rw [List.mem_singleton.1 h]; exact bare_rd w 10 (by decide) (by decide)
theorem pair_form {t : Dt} {a b : Tr} (h : t.tr = .mk 8 0 Q6.zero ⟨#[]⟩ [] [a, b]) : t.d.k = 8 ∧ t.ts.length = 2 ∧ ∀ u, t.ts[0]? = some u → u.tr = a := by
  cases t with
  | mk d ts =>
    rw [Dt.tr_mk] at h
    injection h with h1 _ _ _ _ h2
    refine ⟨h1, ?_, fun u hu => ?_⟩
    · have := congrArg List.length h2; rw [List.length_map] at this; exact this
    · have := congrArg (fun l => l[0]?) h2
      simp only [List.getElem?_map] at this
      simp only [Dt.ts] at hu
      rw [hu] at this
      simpa using this
set_option maxRecDepth 100000
theorem mrg_map {α β : Type} {lt : α → α → Bool} {lt' : β → β → Bool} {f : α → β} (h : ∀ x y, lt x y = lt' (f x) (f y)) : ∀ xs ys : List α, (mrg lt xs ys).map f = mrg lt' (xs.map f) (ys.map f)
  | [], ys => by rw [mrg_l, List.map_nil, mrg_l]
  | x :: xs, [] => by rw [mrg_r, List.map_nil, mrg_r]
  | x :: xs, y :: ys => by
    rw [List.map_cons, List.map_cons]
    cases h9 : lt y x with
    | true => rw [mrg_y h9, mrg_y (by rw [← h]; exact h9), List.map_cons, mrg_map h (x :: xs) ys, List.map_cons]
    | false => rw [mrg_x h9, mrg_x (by rw [← h]; exact h9), List.map_cons, mrg_map h xs (y :: ys), List.map_cons]
termination_by xs ys => xs.length + ys.length
theorem isort_map {α β : Type} {lt : α → α → Bool} {lt' : β → β → Bool} {f : α → β} (h : ∀ x y, lt x y = lt' (f x) (f y)) : ∀ xs : List α, (isort lt xs).map f = isort lt' (xs.map f)
  | [] => rfl
  | x :: xs => by
    show (mrg lt [x] (isort lt xs)).map f = mrg lt' [f x] (isort lt' (xs.map f))
    rw [mrg_map h, isort_map h xs]; rfl
theorem bulks_perm {xs ys : List Tr} (h : xs.Perm ys) : Tr.bulks xs = Tr.bulks ys := by
  induction h with
  | nil => rfl
  | cons x _ ih => show x.bulk + _ = x.bulk + _; rw [ih]
  | swap x y l => show y.bulk + (x.bulk + _) = x.bulk + (y.bulk + _); omega
  | trans _ _ h1 h2 => rw [h1, h2]
open Go.RowKit Go.Lib
theorem run_loadB {P : Program} {w : World} {b : Nat} : ∀ (l : List UInt8) (off : Nat) (acc : ByteArray), (∀ j, j < l.length → w.cell? ⟨b, off + j, none⟩ = some (.int .u8 (((l.getD j 0).toNat : Nat) : Int))) → (Extern.Bytes.loadBytes ⟨b, off, none⟩ l.length acc).run P w = .ok ⟨acc.data ++ l.toArray⟩ w
  | [], off, acc, _ => by
    simp [Extern.Bytes.loadBytes]
  | x :: l, off, acc, h => by
    have h0 := h 0 (by simp)
    have hl : (load ⟨b, off, none⟩).run P w = .ok (.int .u8 ((x.toNat : Nat) : Int)) w := by
      rw [Nat.add_zero] at h0
      have h1 : w.cell? ⟨b, off, none⟩ = some (.int .u8 ((x.toNat : Nat) : Int)) := by simpa using h0
      simp [go_sem, h1]
    have hn : ∀ j, j < l.length → w.cell? ⟨b, off + 1 + j, none⟩ = some (.int .u8 (((l.getD j 0).toNat : Nat) : Int)) := by
      intro j hj
      have h3 := h (j + 1) (by simpa using hj)
      rw [show off + (j + 1) = off + 1 + j by omega] at h3
      simpa using h3
    have ih := run_loadB (P := P) l (off + 1) (acc.push x) hn
    rw [List.length_cons, Extern.Bytes.loadBytes, Sem.run_bind, hl]
    simp only [Result.andThen_ok, addr_add, Int.toNat_natCast, UInt8.ofNat_toNat]
    rw [ih]
    congr 2
    simp
theorem run_bytesS {P : Program} {w : World} {so : Option Addr} {l : List UInt8} {ca : Nat} (h : Rb w so l) : (Extern.Bytes.bytesOf (.slice so l.length ca)).run P w = .ok ⟨l.toArray⟩ w := by
  by_cases hl : l = []
  · subst hl
    cases so with
    | none => simp [Extern.Bytes.bytesOf]; rfl
    | some a => simp [Extern.Bytes.bytesOf, Extern.Bytes.loadBytes]; rfl
  · obtain ⟨b, off, rfl, _, h2⟩ := h.pos hl
    have := run_loadB (P := P) l off .empty h2
    simp only [Extern.Bytes.bytesOf]
    rw [this]
    simp
theorem run_compareS {P : Program} {w : World} {so sp : Option Addr} {a b : List UInt8} {ca cb : Nat} (ha : Rb w so a) (hb : Rb w sp b) : (Extern.BytealgCompare.compare #[.slice so a.length ca, .slice sp b.length cb]).run P w = .ok (.int .i64 (compareBytes a b)) w := by
  change Sem.run P (do pure (goInt (Extern.BytealgCompare.cmp (← Extern.Bytes.bytesOf (.slice so a.length ca)) (← Extern.Bytes.bytesOf (.slice sp b.length cb))))) w = _
  simp only [Sem.run_bind, Sem.run_pure, Result.andThen, run_bytesS ha, run_bytesS hb]
  rw [Go.Lib.cmp_eq]
  rfl
set_option maxHeartbeats 1000000 in
set_option maxRecDepth 100000 in
theorem bcmp_any {w : World} {so sp : Option Addr} {a b : List UInt8} {ca cb : Nat} (ha : Rb w so a) (hb : Rb w sp b) : Calls Tryz.prog 70 #[.slice so a.length ca, .slice sp b.length cb] w fun e w' => e = .returned (.int .i64 (compareBytes a b)) ∧ Below w.heap.size w w' := by
  go_enter Tryz.func70, Tryz.ntmps70
  go_wp2
  rw [run_callFunc_extern Tryz.func89 (by kernel_rfl) (by kernel_rfl) (by kernel_rfl) (e := Extern.BytealgCompare.compare) (by kernel_rfl), run_compareS ha hb]
  simp only [Result.andThen]
  rw [Oper.upon_value]
  go_wp2
  go_ret
  exact ⟨rfl, Below.refl _ _⟩
theorem scmp_any {w : World} {s t : ByteArray} : Calls Tryz.prog 69 #[.string s, .string t] w fun e w' => e = .returned (.int .i64 (compareBytes s.data.toList t.data.toList)) ∧ Below w.heap.size w w' := (Tryz.strings_Compare s t w).mono fun e w' ⟨h, e2⟩ => ⟨h, e2 ▸ Below.refl _ _⟩
open Go.Lib
theorem rb_open {w : World} {so : Option Addr} {l : List UInt8} {i : Nat} (h : Rb w so l) (hi : i < l.length) : ∃ b off, so = some ⟨b, off, none⟩ ∧ b < w.heap.size ∧ ∀ j, j < l.length → w.cell? ⟨b, off + j, none⟩ = some (.int .u8 (((l.getD j 0).toNat : Nat) : Int)) :=
  h.pos (fun k => by rw [k] at hi; exact absurd hi (Nat.not_lt_zero _))
section
variable {P : Program} {w0 w : World} {L : List Ck} {l : List (Nat × Value)} {dst : Option Tmp} {ty : TypeId} {pos : String} {after : Array Edge} {guard : Option (Nat × Bool)} {v : Value}
end
section
variable {P : Program} {w0 w : World} {L : List Ck} {l : List (Nat × Value)} {ops : List Oper} {Q : Exit → Act → World → Prop} {a : Act} {n : Nat} {rest : List Oper} {d : Nat} {dst : Option Tmp} {ty : TypeId} {pos : String} {after : Array Edge} {guard : Option (Nat × Bool)}
end
/-! ### Encode -/
section
variable {k n : Int} {q : Q6} {s : ByteArray} {mr ml : Nat}
end
end Go.Proofs.YtofbejppkldhnaaGreatDoor.G
namespace Go.Proofs.YtofbejppkldhnaaGreatDoor
open Go.RowKit
set_option linter.unusedVariables false
set_option linter.unusedSimpArgs false
set_option maxRecDepth 100000
theorem EqN_is1_22 : Is1 Tryz.prog 22 := ⟨⟨_, Tryz.underlying22, rfl⟩, by kernel_rfl⟩
theorem EqN_is1_4 : Is1 Tryz.prog 4 := ⟨⟨_, Tryz.underlying4, rfl⟩, by kernel_rfl⟩
theorem EqN_fld_24_0 : FieldAt Tryz.prog 24 0 0 := ⟨_, _, Tryz.underlying24, rfl, rfl, by kernel_rfl⟩
theorem EqN_fld_24_1 : FieldAt Tryz.prog 24 1 1 := ⟨_, _, Tryz.underlying24, rfl, rfl, by kernel_rfl⟩
theorem EqN_fld_24_2 : FieldAt Tryz.prog 24 2 2 := ⟨_, _, Tryz.underlying24, rfl, rfl, by kernel_rfl⟩
theorem EqN_fld_26_0 : FieldAt Tryz.prog 26 0 0 := ⟨_, _, Tryz.underlying26, rfl, rfl, by kernel_rfl⟩
theorem EqN_fld_26_1 : FieldAt Tryz.prog 26 1 3 := ⟨_, _, Tryz.underlying26, rfl, rfl, by kernel_rfl⟩
theorem EqN_isS_24 : IsS Tryz.prog 24 3 := ⟨⟨_, Tryz.underlying24⟩, by kernel_rfl⟩
theorem EqN_isS_26 : IsS Tryz.prog 26 6 := ⟨⟨_, Tryz.underlying26⟩, by kernel_rfl⟩
theorem rat_real (u : Rat) : Q6.rat u 0 = ⟨rb u.num, words u.num.natAbs, words u.den, false, [], [1]⟩ := by
 unfold Q6.rat
 have h0 : words (0 : Rat).num.natAbs = [] := by show words 0 = []; exact words_zero
 have h1 : words (0 : Rat).den = [1] := by show words 1 = [1]; exact words_one
 rw [h0, h1]
 rfl
theorem real_cmp {u x : Rat} (hu : fitR u) (hx : fitR x) : cmpQ ⟨rb u.num, words u.num.natAbs, words u.den, false, [], [1]⟩ ⟨rb x.num, words x.num.natAbs, words x.den, false, [], [1]⟩ = (cmpR u x, 0) := by
 rw [← rat_real, ← rat_real, cmpQ_rat hu hx]
theorem fit_zero : fitR 0 := by
 refine ⟨?_, ?_⟩
 ·
  show (words 0).length ≤ 512; rw [words_zero]; decide
 ·
  show (words 1).length ≤ 512; rw [words_one]; decide
theorem real_len {u : Rat} (hu : fitR u) : LenQ ⟨rb u.num, words u.num.natAbs, words u.den, false, [], [1]⟩ := by rw [← rat_real]; exact lenQ_rat hu fit_zero
theorem sameF_rat {u x : Rat} (h : sameF (rb u.num) (words u.num.natAbs) (words u.den) (rb x.num) (words x.num.natAbs) (words x.den) = true) : cmpR u x = 0 := by
 unfold sameF at h
 simp only [Bool.and_eq_true, beq_iff_eq, decide_eq_true_eq] at h
 rw [rat_ext h.1 h.2.1 h.2.2]
 unfold cmpR
 rw [if_neg Rat.lt_irrefl, if_pos rfl]
theorem esameFr_any {w : World} {b b' : Bool} {t q t' q' : List Nat} {a1 a2 : Option Addr} {ac1 ac2 : Nat} (ha1 : Sc w a1 ac1 t) (ha2 : Sc w a2 ac2 q) {u1 u2 : Option Addr} {uc1 uc2 : Nat} (hu1 : Sc w u1 uc1 t') (hu2 : Sc w u2 uc2 q') (l1 : t.length ≤ 9223372036854775807) (l2 : q.length ≤ 9223372036854775807) (l3 : t'.length ≤ 9223372036854775807) (l4 : q'.length ≤ 9223372036854775807) {r : Bool} (hr : sameF b t q b' t' q' = r) :
  Calls Tryz.prog 103 #[.agg #[.bool b, .slice a1 t.length ac1, .slice a2 q.length ac2], .agg #[.bool b', .slice u1 t'.length uc1, .slice u2 q'.length uc2]] w fun e w' => e = .returned (.bool r) ∧ Below w.heap.size w w' := by
 have V : St w w [] [(u2, q'), (u1, t'), (a2, q), (a1, t)] [] := ((((St.start w).addR ha1.rd).addR ha2.rd).addR hu1.rd).addR hu2.rd
 refine walk_of (l := [(0, .agg #[.bool b, .slice a1 t.length ac1, .slice a2 q.length ac2]), (1, .agg #[.bool b', .slice u1 t'.length uc1, .slice u2 q'.length uc2])]) Tryz.func103 rfl Tryz.ntmps103 rfl rfl ?_
 intro Q hret hnorm hP a A
 refine wsk fun K1 hK1 => wrl (seq_new A V rfl rfl rfl pg (does_box rfl rfl) rfl ?_)
 intro g2 w3 V a A
 refine seq_new A V rfl rfl rfl pg (does_box rfl rfl) rfl ?_
 intro g4 w5 V a A
 refine sda A λa A↦?_
 refine seq_end (hK1 _ _ (wsk fun K6 hK6 => wrl (sdo (v := .pointer (some ⟨g2, 0, none⟩)) A (does_field EqN_fld_24_0 rfl rfl) λa A↦?_)))
 refine sdo A (does_load1 V EqN_is1_4 rfl 1 rfl rfl) λa A↦?_
 refine sdo (v := .pointer (some ⟨g4, 0, none⟩)) A (does_field EqN_fld_24_0 rfl rfl) λa A↦?_
 refine sdo A (does_load1 V EqN_is1_4 rfl 0 rfl rfl) λa A↦?_
 rcases tf ((b == b')) with hb7 | hb7
 ·
  have hb7' := eq_of_beq hb7
  refine sdo (v := .bool true) A (does_bin rfl rfl (fun w => ((bin_eqlB Tryz.underlying4) w).trans (by rw [hb7]))) λa A↦?_
  refine sdm A λa A↦?_
  refine sdo (v := .pointer (some ⟨g2, 1, none⟩)) A (does_field EqN_fld_24_1 rfl rfl) λa A↦?_
  refine sdo A (does_load1 V EqN_is1_22 rfl 1 rfl rfl) λa A↦?_
  refine sdo (v := .pointer (some ⟨g4, 1, none⟩)) A (does_field EqN_fld_24_1 rfl rfl) λa A↦?_
  refine sdo A (does_load1 V EqN_is1_22 rfl 0 rfl rfl) λa A↦?_
  rcases tf (decide (t = t')) with hb8 | hb8
  ·
   have hb8' := of_decide_eq_true hb8
   refine sct A (ef rfl rfl) (equalB_any _ _ (V.rd 3 rfl) (V.rd 1 rfl) l1 l3 hb8) ?_
   rintro _ w10 ⟨rfl, hb9⟩
   replace V := V.call hb9
   refine ⟨_, rfl, ?_⟩
   intro a A
   refine sdk (v := .bool true) A λa A↦?_
   refine sdm A λa A↦?_
   refine sdo (v := .pointer (some ⟨g2, 2, none⟩)) A (does_field EqN_fld_24_2 rfl rfl) λa A↦?_
   refine sdo A (does_load1 V EqN_is1_22 rfl 1 rfl rfl) λa A↦?_
   refine sdo (v := .pointer (some ⟨g4, 2, none⟩)) A (does_field EqN_fld_24_2 rfl rfl) λa A↦?_
   refine sdo A (does_load1 V EqN_is1_22 rfl 0 rfl rfl) λa A↦?_
   rcases tf (decide (q = q')) with hb11 | hb11
   ·
    have hb11' := of_decide_eq_true hb11
    refine sct A (ef rfl rfl) (equalB_any _ _ (V.rd 2 rfl) (V.rd 0 rfl) l2 l4 hb11) ?_
    rintro _ w13 ⟨rfl, hb12⟩
    replace V := V.call hb12
    refine ⟨_, rfl, ?_⟩
    intro a A
    refine sdk (v := .bool true) A λa A↦?_
    refine sda A λa A↦?_
    refine seq_end (hK6 _ _ (wp_ret (hret _ _ (en1 A rfl (res_tmp rfl) ?_))))
    subst hr
    exact ⟨by unfold sameF; rw [hb7, hb8, hb11]; try rfl, V.bel⟩
   ·
    have hb11' := of_decide_eq_false hb11
    refine sct A (ef rfl rfl) (equalB_any _ _ (V.rd 2 rfl) (V.rd 0 rfl) l2 l4 hb11) ?_
    rintro _ w15 ⟨rfl, hb14⟩
    replace V := V.call hb14
    refine ⟨_, rfl, ?_⟩
    intro a A
    refine sdk (v := .bool false) A λa A↦?_
    refine sda A λa A↦?_
    refine seq_end (hK6 _ _ (wp_ret (hret _ _ (en1 A rfl (res_tmp rfl) ?_))))
    subst hr
    exact ⟨by unfold sameF; rw [hb7, hb8, hb11]; try rfl, V.bel⟩
  ·
   have hb8' := of_decide_eq_false hb8
   refine sct A (ef rfl rfl) (equalB_any _ _ (V.rd 3 rfl) (V.rd 1 rfl) l1 l3 hb8) ?_
   rintro _ w17 ⟨rfl, hb16⟩
   replace V := V.call hb16
   refine ⟨_, rfl, ?_⟩
   intro a A
   refine sdk (v := .bool false) A λa A↦?_
   refine sdm A λa A↦?_
   iterate 5 refine seq_skip A rfl rfl rfl λa A↦?_
   refine sdk (v := .bool false) A λa A↦?_
   refine sda A λa A↦?_
   refine seq_end (hK6 _ _ (wp_ret (hret _ _ (en1 A rfl (res_tmp rfl) ?_))))
   subst hr
   exact ⟨by unfold sameF; rw [hb7, hb8]; try rfl, V.bel⟩
 ·
  have hb7' := ne_of_beq_false hb7
  refine sdo (v := .bool false) A (does_bin rfl rfl (fun w => ((bin_eqlB Tryz.underlying4) w).trans (by rw [hb7]))) λa A↦?_
  refine sdm A λa A↦?_
  iterate 5 refine seq_skip A rfl rfl rfl λa A↦?_
  refine sdk (v := .bool false) A λa A↦?_
  refine sdm A λa A↦?_
  iterate 5 refine seq_skip A rfl rfl rfl λa A↦?_
  refine sdk (v := .bool false) A λa A↦?_
  refine sda A λa A↦?_
  refine seq_end (hK6 _ _ (wp_ret (hret _ _ (en1 A rfl (res_tmp rfl) ?_))))
  subst hr
  exact ⟨by unfold sameF; rw [hb7]; try rfl, V.bel⟩
theorem realN_any {w : World} {b : Bool} {t q : List Nat} {a1 a2 : Option Addr} {ac1 ac2 : Nat} (ha1 : Sc w a1 ac1 t) (ha2 : Sc w a2 ac2 q) : Calls Tryz.prog 105 #[.agg #[.bool b, .slice a1 t.length ac1, .slice a2 q.length ac2]] w (AnsV w ⟨b, t, q, false, [], [1]⟩) := by
 have V : St w w [] [(a2, q), (a1, t)] [] := ((St.start w).addR ha1.rd).addR ha2.rd
 refine walk_of (l := [(0, .agg #[.bool b, .slice a1 t.length ac1, .slice a2 q.length ac2])]) Tryz.func105 rfl Tryz.ntmps105 rfl rfl ?_
 intro Q hret hnorm hP a A
 refine wsk fun K1 hK1 => wrl (seq_new A V rfl rfl rfl pg (does_box rfl rfl) rfl ?_)
 intro g2 w3 V a A
 refine seq_new (vs := [.bool false, .slice none 0 0, .slice none 0 0, .bool false, .slice none 0 0, .slice none 0 0]) (t := 26) A V rfl rfl rfl pg (does_alloc (z := .agg #[.bool false, .slice none 0 0, .slice none 0 0, .bool false, .slice none 0 0, .slice none 0 0]) (by kernel_rfl) rfl) rfl ?_
 intro g4 w5 V a A
 refine seq_end (hK1 _ _ (wsk fun K6 hK6 => wp_draw (S := fun w1 => St w w1 [(g2, [.bool b, .slice a1 t.length ac1, .slice a2 q.length ac2])] [(a2, q), (a1, t)] []) (by kernel_rfl) ?_))
 replace V := V.drew
 refine any_tk A 0 rfl rfl rfl rfl hP (V.partD (.cons _ (.cons_cons _ .slnil)) 0 rfl (.refl _)) (fun w1 V => does_loadS V EqN_isS_24 rfl 0 rfl (cs := [.bool b, .slice a1 t.length ac1, .slice a2 q.length ac2]) rfl rfl) λa A↦?_
 refine any_one (by kernel_rfl) (op_call A 1 rfl rfl rfl rfl (enters_func  rfl rfl (fun w => by kernel_rfl)) ((show Calls Tryz.prog 127 #[.int .i64 (0)] _ (AnsV _ (Q6.whole false 0)) from intP_any (k := 0) (by decide))) ?_)
 rintro _ w10 ⟨p7_1, p7_c1, p7_2, p7_c2, p7_3, p7_c3, p7_4, p7_c4, rfl, hn8, hb9⟩
 replace V := V.call hb9
 replace V := V.addR hn8.s1.rd
 replace V := V.addR hn8.s2.rd
 replace V := V.addR hn8.s3.rd
 replace V := V.addR hn8.s4.rd
 refine ⟨_, rfl, (V.partD (.cons _ (.cons_cons _ .slnil)) 4 rfl (.refl _)), ?_⟩
 intro a A
 refine any_tk (v := .agg #[.bool false, .slice p7_3 0 p7_c3, .slice p7_4 1 p7_c4]) A 2 rfl rfl rfl rfl hP (V.partD (.cons _ (.cons_cons _ .slnil)) 4 rfl (.refl _)) (fun w1 V => does_fieldV rfl (fun w => by kernel_rfl)) λa A↦?_
 refine any_tk (v := .agg #[.bool b, .slice a1 t.length ac1, .slice a2 q.length ac2, .bool false, .slice p7_3 0 p7_c3, .slice p7_4 1 p7_c4]) A 3 rfl rfl rfl rfl hP (V.partD (.cons _ (.cons_cons _ .slnil)) 4 rfl (.refl _)) (fun w1 V => does_build rfl (fun w => by kernel_rfl)) λa A↦?_
 refine any_one (by kernel_rfl) (op_store (us := [.bool b, .slice a1 t.length ac1, .slice a2 q.length ac2, .bool false, .slice p7_3 0 p7_c3, .slice p7_4 1 p7_c4]) A V 4 rfl rfl rfl (sets_store rfl rfl rfl (by kernel_rfl) V 0 rfl rfl rfl) 0 rfl rfl rfl rfl ?_)
 intro w11 V
 refine ⟨(V.partD (.cons _ (.cons_cons _ .slnil)) 4 rfl (.refl _)), ?_⟩
 refine any_end (by kernel_rfl) ?_
 refine hK6 _ _ (wp_ret (hret _ _ (en1 A rfl (res_cell V EqN_isS_26 rfl 0 rfl (cs := [.bool b, .slice a1 t.length ac1, .slice a2 q.length ac2, .bool false, .slice p7_3 0 p7_c3, .slice p7_4 1 p7_c4]) rfl rfl) ?_)))
 exact ⟨a1, ac1, a2, ac2, p7_3, p7_c3, p7_4, p7_c4, rfl, ⟨⟨(V.rd 5 rfl), ha1.nil, ha1.cap⟩, ⟨(V.rd 4 rfl), ha2.nil, ha2.cap⟩, ⟨(V.rd 1 rfl), hn8.s3.nil, hn8.s3.cap⟩, ⟨(V.rd 0 rfl), hn8.s4.nil, hn8.s4.cap⟩⟩, V.bel⟩
theorem ordFr_any {w : World} {u x : Rat} (hu : fitR u) (hx : fitR x) {a1 a2 : Option Addr} {ac1 ac2 : Nat} (ha1 : Sc w a1 ac1 (words u.num.natAbs)) (ha2 : Sc w a2 ac2 (words u.den)) {e1 e2 : Option Addr} {ec1 ec2 : Nat} (he1 : Sc w e1 ec1 (words x.num.natAbs)) (he2 : Sc w e2 ec2 (words x.den)) : Calls Tryz.prog 87 #[.agg #[.bool ((rb u.num)), .slice a1 (words u.num.natAbs).length ac1, .slice a2 (words u.den).length ac2], .agg #[.bool ((rb x.num)), .slice e1 (words x.num.natAbs).length ec1, .slice e2 (words x.den).length ec2]] w fun e w' => e = .returned (.int .i64 (cmpR u x)) ∧ Below w.heap.size w w' := by
 have V : St w w [] [(e2, words x.den), (e1, words x.num.natAbs), (a2, words u.den), (a1, words u.num.natAbs)] [] := ((((St.start w).addR ha1.rd).addR ha2.rd).addR he1.rd).addR he2.rd
 refine walk_of (l := [(0, .agg #[.bool ((rb u.num)), .slice a1 ((words u.num.natAbs).length) ac1, .slice a2 ((words u.den).length) ac2]), (1, .agg #[.bool ((rb x.num)), .slice e1 ((words x.num.natAbs).length) ec1, .slice e2 ((words x.den).length) ec2])]) Tryz.func87 rfl Tryz.ntmps87 rfl rfl ?_
 intro Q hret hnorm hP a A
 refine wsk fun K1 hK1 => wrl (seq_new A V rfl rfl rfl pg (does_box rfl rfl) rfl ?_)
 intro g2 w3 V a A
 refine seq_new A V rfl rfl rfl pg (does_box rfl rfl) rfl ?_
 intro g4 w5 V a A
 refine sda A λa A↦?_
 refine seq_end (hK1 _ _ (wsk fun K6 hK6 => wsk fun K7 hK7 => wrl (sdo A (does_loadS V EqN_isS_24 rfl 1 rfl (cs := [.bool ((rb u.num)), .slice a1 ((words u.num.natAbs).length) ac1, .slice a2 ((words u.den).length) ac2]) rfl rfl) λa A↦?_)))
 refine sdo A (does_loadS V EqN_isS_24 rfl 0 rfl (cs := [.bool ((rb x.num)), .slice e1 ((words x.num.natAbs).length) ec1, .slice e2 ((words x.den).length) ec2]) rfl rfl) λa A↦?_
 rcases tf (sameF (rb u.num) (words u.num.natAbs) (words u.den) (rb x.num) (words x.num.natAbs) (words x.den)) with hb8 | hb8
 ·
  refine sct A (ef rfl rfl) (esameFr_any ⟨(V.rd 3 rfl), ha1.nil, ha1.cap⟩ ⟨(V.rd 2 rfl), ha2.nil, ha2.cap⟩ ⟨(V.rd 1 rfl), he1.nil, he1.cap⟩ ⟨(V.rd 0 rfl), he2.nil, he2.cap⟩ (Nat.le_trans hu.1 (by decide)) (Nat.le_trans hu.2 (by decide)) (Nat.le_trans hx.1 (by decide)) (Nat.le_trans hx.2 (by decide)) hb8) ?_
  rintro _ w10 ⟨rfl, hb9⟩
  replace V := V.call hb9
  refine ⟨_, rfl, ?_⟩
  intro a A
  refine seq_end (hK7 _ _ (wp_cond_true (A.ev rfl) ?_))
  refine wsk fun K11 hK11 => wrl (sda A λa A↦?_)
  refine seq_end (hK11 _ _ (wp_ret (hret _ _ (en1 A rfl (res_tmp rfl) ?_))))
  exact ⟨by rw [sameF_rat hb8], V.bel⟩
 ·
  refine sct A (ef rfl rfl) (esameFr_any ⟨(V.rd 3 rfl), ha1.nil, ha1.cap⟩ ⟨(V.rd 2 rfl), ha2.nil, ha2.cap⟩ ⟨(V.rd 1 rfl), he1.nil, he1.cap⟩ ⟨(V.rd 0 rfl), he2.nil, he2.cap⟩ (Nat.le_trans hu.1 (by decide)) (Nat.le_trans hu.2 (by decide)) (Nat.le_trans hx.1 (by decide)) (Nat.le_trans hx.2 (by decide)) hb8) ?_
  rintro _ w13 ⟨rfl, hb12⟩
  replace V := V.call hb12
  refine ⟨_, rfl, ?_⟩
  intro a A
  refine seq_end (hK7 _ _ (wp_cond_false (A.ev rfl) ?_))
  refine wp_skip (hK6 _ _ (wsk fun K14 hK14 => wp_draw (S := fun w1 => St w w1 [(g4, [.bool ((rb x.num)), .slice e1 ((words x.num.natAbs).length) ec1, .slice e2 ((words x.den).length) ec2]), (g2, [.bool ((rb u.num)), .slice a1 ((words u.num.natAbs).length) ac1, .slice a2 ((words u.den).length) ac2])] [(e2, words x.den), (e1, words x.num.natAbs), (a2, words u.den), (a1, words u.num.natAbs)] []) (by kernel_rfl) ?_))
  replace V := V.drew
  refine any_tk A 0 rfl rfl rfl rfl hP V (fun w1 V => does_loadS V EqN_isS_24 rfl 1 rfl (cs := [.bool ((rb u.num)), .slice a1 ((words u.num.natAbs).length) ac1, .slice a2 ((words u.den).length) ac2]) rfl rfl) λa A↦?_
  refine any_tk A 2 rfl rfl rfl rfl hP V (fun w1 V => does_loadS V EqN_isS_24 rfl 0 rfl (cs := [.bool ((rb x.num)), .slice e1 ((words x.num.natAbs).length) ec1, .slice e2 ((words x.den).length) ec2]) rfl rfl) λa A↦?_
  refine any_one (by kernel_rfl) (op_call A 1 rfl rfl rfl rfl (enters_func  rfl rfl (fun w => by kernel_rfl)) (realN_any ⟨(V.rd 3 rfl), ha1.nil, ha1.cap⟩ ⟨(V.rd 2 rfl), ha2.nil, ha2.cap⟩) ?_)
  rintro _ w18 ⟨p15_1, p15_c1, p15_2, p15_c2, p15_3, p15_c3, p15_4, p15_c4, rfl, hn16, hb17⟩
  replace V := V.call hb17
  replace V := V.addR hn16.s1.rd
  replace V := V.addR hn16.s2.rd
  replace V := V.addR hn16.s3.rd
  replace V := V.addR hn16.s4.rd
  refine ⟨_, rfl, (V.partD (.refl _) 4 rfl (.refl _)), ?_⟩
  intro a A
  refine any_one (by kernel_rfl) (op_call A 3 rfl rfl rfl rfl (enters_func  rfl rfl (fun w => by kernel_rfl)) (realN_any ⟨(V.rd 5 rfl), he1.nil, he1.cap⟩ ⟨(V.rd 4 rfl), he2.nil, he2.cap⟩) ?_)
  rintro _ w22 ⟨p19_1, p19_c1, p19_2, p19_c2, p19_3, p19_c3, p19_4, p19_c4, rfl, hn20, hb21⟩
  replace V := V.call hb21
  replace V := V.addR hn20.s1.rd
  replace V := V.addR hn20.s2.rd
  replace V := V.addR hn20.s3.rd
  replace V := V.addR hn20.s4.rd
  refine ⟨_, rfl, (V.partD (.refl _) 8 rfl (.refl _)), ?_⟩
  intro a A
  refine any_one (by kernel_rfl) (op_call A 4 rfl rfl rfl rfl (enters_func  rfl rfl (fun w => by kernel_rfl)) (((real_cmp hu hx) ▸ cmpQ_any (show Nm _ ⟨rb u.num, words u.num.natAbs, words u.den, false, [], [1]⟩ p15_1 p15_c1 p15_2 p15_c2 p15_3 p15_c3 p15_4 p15_c4 from ⟨⟨(V.rd 7 rfl), hn16.s1.nil, hn16.s1.cap⟩, ⟨(V.rd 6 rfl), hn16.s2.nil, hn16.s2.cap⟩, ⟨(V.rd 5 rfl), hn16.s3.nil, hn16.s3.cap⟩, ⟨(V.rd 4 rfl), hn16.s4.nil, hn16.s4.cap⟩⟩) (real_len hu) (show Nm _ ⟨rb x.num, words x.num.natAbs, words x.den, false, [], [1]⟩ p19_1 p19_c1 p19_2 p19_c2 p19_3 p19_c3 p19_4 p19_c4 from ⟨⟨(V.rd 3 rfl), hn20.s1.nil, hn20.s1.cap⟩, ⟨(V.rd 2 rfl), hn20.s2.nil, hn20.s2.cap⟩, ⟨(V.rd 1 rfl), hn20.s3.nil, hn20.s3.cap⟩, ⟨(V.rd 0 rfl), hn20.s4.nil, hn20.s4.cap⟩⟩) (real_len hx))) ?_)
  rintro _ w24 ⟨rfl, hb23⟩
  replace V := V.call hb23
  refine ⟨_, rfl, (V.partD (.refl _) 8 rfl (.refl _)), ?_⟩
  intro a A
  refine any_tk A 5 rfl rfl rfl rfl hP (V.partD (.refl _) 8 rfl (.refl _)) (fun w1 V => does_move rfl) λa A↦?_
  refine any_tk (v := .int .i64 (cmpR u x)) A 6 rfl rfl rfl rfl hP (V.partD (.refl _) 8 rfl (.refl _)) (fun w1 V => does_extract (vs := [.int .i64 (cmpR u x), .int .i64 0]) rfl rfl) λa A↦?_
  refine any_tk (v := .int .i64 0) A 7 rfl rfl rfl rfl hP (V.partD (.refl _) 8 rfl (.refl _)) (fun w1 V => does_extract (vs := [.int .i64 (cmpR u x), .int .i64 0]) rfl rfl) λa A↦?_
  refine any_tk A 8 rfl rfl rfl rfl hP (V.partD (.refl _) 8 rfl (.refl _)) (fun w1 V => does_assign rfl) λa A↦?_
  refine any_tk A 9 rfl rfl rfl rfl hP (V.partD (.refl _) 8 rfl (.refl _)) (fun w1 V => does_assign rfl) λa A↦?_
  refine any_end (by kernel_rfl) ?_
  refine hK14 _ _ (wsk fun K25 hK25 => wrl (sdm A λa A↦?_))
  refine sda A λa A↦?_
  refine seq_end (hK25 _ _ (wp_ret (hret _ _ (en1 A rfl (res_tmp rfl) ?_))))
  exact ⟨rfl, V.bel⟩
theorem ordNum_any {w : World} {u v x y : Rat} {a1 a2 a3 a4 : Option Addr} {ac1 ac2 ac3 ac4 : Nat} (ha : Nm w (Q6.rat u v) a1 ac1 a2 ac2 a3 ac3 a4 ac4) {u1 u2 u3 u4 : Option Addr} {uc1 uc2 uc3 uc4 : Nat} (hb : Nm w (Q6.rat x y) u1 uc1 u2 uc2 u3 uc3 u4 uc4) (hu : fitR u) (hv : fitR v) (hx : fitR x) (hy : fitR y) : Calls Tryz.prog 68 #[numV (Q6.rat u v) a1 ac1 a2 ac2 a3 ac3 a4 ac4, numV (Q6.rat x y) u1 uc1 u2 uc2 u3 uc3 u4 uc4] w fun e w' => e = .returned (.int .i64 (if cmpR u x = 0 then cmpR v y else cmpR u x)) ∧ Below w.heap.size w w' := by
 have V : St w w [] [(u4, words y.den), (u3, words y.num.natAbs), (u2, words x.den), (u1, words x.num.natAbs), (a4, words v.den), (a3, words v.num.natAbs), (a2, words u.den), (a1, words u.num.natAbs)] [] := ((((((((St.start w).addR ha.s1.rd).addR ha.s2.rd).addR ha.s3.rd).addR ha.s4.rd).addR hb.s1.rd).addR hb.s2.rd).addR hb.s3.rd).addR hb.s4.rd
 refine walk_of (l := [(0, .agg #[.bool (rb u.num), .slice a1 ((words u.num.natAbs).length) ac1, .slice a2 ((words u.den).length) ac2, .bool (rb v.num), .slice a3 ((words v.num.natAbs).length) ac3, .slice a4 ((words v.den).length) ac4]), (1, .agg #[.bool (rb x.num), .slice u1 ((words x.num.natAbs).length) uc1, .slice u2 ((words x.den).length) uc2, .bool (rb y.num), .slice u3 ((words y.num.natAbs).length) uc3, .slice u4 ((words y.den).length) uc4])]) Tryz.func68 rfl Tryz.ntmps68 rfl rfl ?_
 intro Q hret hnorm hP a A
 refine wsk fun K1 hK1 => wrl (seq_new A V rfl rfl rfl pg (does_box rfl rfl) rfl ?_)
 intro g2 w3 V a A
 refine seq_new A V rfl rfl rfl pg (does_box rfl rfl) rfl ?_
 intro g4 w5 V a A
 refine sda A λa A↦?_
 refine seq_end (hK1 _ _ (wsk fun K6 hK6 => wsk fun K7 hK7 => wrl (sdo (v := .pointer (some ⟨g2, 0, none⟩)) A (does_field EqN_fld_26_0 rfl rfl) λa A↦?_)))
 refine sdo A (does_loadS V EqN_isS_24 rfl 1 rfl (cs := [.bool (rb u.num), .slice a1 ((words u.num.natAbs).length) ac1, .slice a2 ((words u.den).length) ac2]) rfl rfl) λa A↦?_
 refine sdo (v := .pointer (some ⟨g4, 0, none⟩)) A (does_field EqN_fld_26_0 rfl rfl) λa A↦?_
 refine sdo A (does_loadS V EqN_isS_24 rfl 0 rfl (cs := [.bool (rb x.num), .slice u1 ((words x.num.natAbs).length) uc1, .slice u2 ((words x.den).length) uc2]) rfl rfl) λa A↦?_
 refine sct A (ef rfl rfl) (ordFr_any hu hx ⟨(V.rd 7 rfl), ha.s1.nil, ha.s1.cap⟩ ⟨(V.rd 6 rfl), ha.s2.nil, ha.s2.cap⟩ ⟨(V.rd 3 rfl), hb.s1.nil, hb.s1.cap⟩ ⟨(V.rd 2 rfl), hb.s2.nil, hb.s2.cap⟩) ?_
 rintro _ w9 ⟨rfl, hb8⟩
 replace V := V.call hb8
 refine ⟨_, rfl, ?_⟩
 intro a A
 refine sda A λa A↦?_
 refine seq_end (hK7 _ _ (wsk fun K10 hK10 => wrl (sdm A λa A↦?_)))
 rcases tf ((cmpR u x != 0)) with hb11 | hb11
 ·
  have hb11' := bne_iff_ne.1 hb11
  refine sdc A bin_neq hb11 λa A↦?_
  refine seq_end (hK10 _ _ (wp_cond_true (A.ev rfl) ?_))
  refine wsk fun K12 hK12 => wrl (sdm A λa A↦?_)
  refine sda A λa A↦?_
  refine seq_end (hK12 _ _ (wp_ret (hret _ _ (en1 A rfl (res_tmp rfl) ?_))))
  exact ⟨by rw [if_neg hb11'], V.bel⟩
 ·
  have hb11' := bne_eq_false_iff_eq.1 hb11
  refine sdc A bin_neq hb11 λa A↦?_
  refine seq_end (hK10 _ _ (wp_cond_false (A.ev rfl) ?_))
  refine wp_skip (hK6 _ _ (wsk fun K13 hK13 => wrl (sdo (v := .pointer (some ⟨g2, 3, none⟩)) A (does_field EqN_fld_26_1 rfl rfl) λa A↦?_)))
  refine sdo A (does_loadS V EqN_isS_24 rfl 1 rfl (cs := [.bool (rb v.num), .slice a3 ((words v.num.natAbs).length) ac3, .slice a4 ((words v.den).length) ac4]) rfl rfl) λa A↦?_
  refine sdo (v := .pointer (some ⟨g4, 3, none⟩)) A (does_field EqN_fld_26_1 rfl rfl) λa A↦?_
  refine sdo A (does_loadS V EqN_isS_24 rfl 0 rfl (cs := [.bool (rb y.num), .slice u3 ((words y.num.natAbs).length) uc3, .slice u4 ((words y.den).length) uc4]) rfl rfl) λa A↦?_
  refine sct A (ef rfl rfl) (ordFr_any hv hy ⟨(V.rd 5 rfl), ha.s3.nil, ha.s3.cap⟩ ⟨(V.rd 4 rfl), ha.s4.nil, ha.s4.cap⟩ ⟨(V.rd 1 rfl), hb.s3.nil, hb.s3.cap⟩ ⟨(V.rd 0 rfl), hb.s4.nil, hb.s4.cap⟩) ?_
  rintro _ w15 ⟨rfl, hb14⟩
  replace V := V.call hb14
  refine ⟨_, rfl, ?_⟩
  intro a A
  refine sda A λa A↦?_
  refine seq_end (hK13 _ _ (wp_ret (hret _ _ (en1 A rfl (res_tmp rfl) ?_))))
  exact ⟨by rw [if_pos hb11'], V.bel⟩
end Go.Proofs.YtofbejppkldhnaaGreatDoor
namespace Go.Proofs.YtofbejppkldhnaaGreatDoor.G
open Go.RowKit
set_option linter.unusedVariables false
set_option linter.unusedSimpArgs false
set_option maxRecDepth 100000
theorem nan_any {w : World} {n : Int} : Calls Tryz.prog 86 #[.int .i64 n] w fun e w' => e = .returned (.bool false) ∧ Below w.heap.size w w' := by
 have M : Mg w w ([]) := Mg.start w
 refine walk_of (l := [(0, .int .i64 n)]) Tryz.func86 rfl Tryz.ntmps86 rfl rfl ?_
 intro Q hret hnorm hP a A
 refine wsk fun K1 hK1 => wrl (sda A λa A↦?_)
 refine seq_end (hK1 _ _ (wsk fun K2 hK2 => wrl ?_))
 iterate 2 refine sdm A λa A↦?_
 refine sdo (v := .bool false) A (does_bin rfl rfl (fun w => (bin_neq w).trans (by rw [show ((n != n)) = false from (bne_self_eq_false n)]))) λa A↦?_
 refine sda A λa A↦?_
 refine seq_end (hK2 _ _ (wp_ret (hret _ _ (en1 A rfl (res_tmp rfl) ?_))))
 exact ⟨rfl, M.bel⟩
theorem cmpi_any {w : World} {m n : Int} : Calls Tryz.prog 67 #[.int .i64 m, .int .i64 n] w fun e w' => e = .returned (.int .i64 (cmpI m n)) ∧ Below w.heap.size w w' := by
 have M : Mg w w ([]) := Mg.start w
 refine walk_of (l := [(0, .int .i64 m), (1, .int .i64 n)]) Tryz.func67 rfl Tryz.ntmps67 rfl rfl ?_
 intro Q hret hnorm hP a A
 refine wsk fun K1 hK1 => wrl (sda A λa A↦?_)
 refine seq_end (hK1 _ _ (wsk fun K2 hK2 => wrl (sdm A λa A↦?_)))
 refine gcl A M (ef rfl rfl) (nan_any) fun w4 hb3 M a A => ?_
 refine sda A λa A↦?_
 refine seq_end (hK2 _ _ (wsk fun K5 hK5 => wrl (sdm A λa A↦?_)))
 refine gcl A M (ef rfl rfl) (nan_any) fun w7 hb6 M a A => ?_
 refine sda A λa A↦?_
 refine seq_end (hK5 _ _ (wsk fun K8 hK8 => wsk fun K9 hK9 => wrl (sdm A λa A↦?_)))
 refine seq_end (hK9 _ _ (wp_cond_false (A.ev rfl) ?_))
 refine wp_skip (hK8 _ _ (wsk fun K10 hK10 => wsk fun K11 hK11 => wrl (sdm A λa A↦?_)))
 refine seq_end (hK11 _ _ (wp_cond_false (A.ev rfl) ?_))
 refine wp_skip (hK10 _ _ (wsk fun K12 hK12 => wsk fun K13 hK13 => wrl ?_))
 iterate 2 refine sdm A λa A↦?_
 rcases tf (decide (m < n)) with hb14 | hb14
 ·
  have hb14' := of_decide_eq_true hb14
  refine sdc A bin_lss hb14 λa A↦?_
  refine seq_end (hK13 _ _ (wp_cond_true (A.ev rfl) ?_))
  refine wsk fun K15 hK15 => wrl (sda A λa A↦?_)
  refine seq_end (hK15 _ _ (wp_ret (hret _ _ (en1 A rfl (res_tmp rfl) ?_))))
  exact ⟨by rw [show cmpI m n = -1 from by unfold cmpI; (repeat' split) <;> omega], M.bel⟩
 ·
  have hb14' := of_decide_eq_false hb14
  refine sdc A bin_lss hb14 λa A↦?_
  refine seq_end (hK13 _ _ (wp_cond_false (A.ev rfl) ?_))
  refine wp_skip (hK12 _ _ (wsk fun K16 hK16 => wsk fun K17 hK17 => wrl ?_))
  iterate 2 refine sdm A λa A↦?_
  rcases tf (decide (n < m)) with hb18 | hb18
  ·
   have hb18' := of_decide_eq_true hb18
   refine sdc A bin_gtr hb18 λa A↦?_
   refine seq_end (hK17 _ _ (wp_cond_true (A.ev rfl) ?_))
   refine wsk fun K19 hK19 => wrl (sda A λa A↦?_)
   refine seq_end (hK19 _ _ (wp_ret (hret _ _ (en1 A rfl (res_tmp rfl) ?_))))
   exact ⟨by rw [show cmpI m n = 1 from by unfold cmpI; (repeat' split) <;> omega], M.bel⟩
  ·
   have hb18' := of_decide_eq_false hb18
   refine sdc A bin_gtr hb18 λa A↦?_
   refine seq_end (hK17 _ _ (wp_cond_false (A.ev rfl) ?_))
   refine wp_skip (hK16 _ _ (wsk fun K20 hK20 => wrl (sda A λa A↦?_)))
   refine seq_end (hK20 _ _ (wp_ret (hret _ _ (en1 A rfl (res_tmp rfl) ?_))))
   exact ⟨by rw [show cmpI m n = 0 from by unfold cmpI; (repeat' split) <;> omega], M.bel⟩
theorem ordQ_any {w : World} {y z : Nu} (hy : y.nm w) (hz : z.nm w) (h1 : ratQ y.q) (h2 : ratQ z.q) : Calls Tryz.prog 68 #[y.val, z.val] w fun e w' => e = .returned (.int .i64 (ordN y.q z.q)) ∧ Below w.heap.size w w' := by
 obtain ⟨q, o1, c1, o2, c2, o3, c3, o4, c4⟩ := y
 obtain ⟨q', p1, d1, p2, d2, p3, d3, p4, d4⟩ := z
 obtain ⟨u, v, rfl, hu, hv⟩ := h1
 obtain ⟨x, y, rfl, hx, hy'⟩ := h2
 refine (ordNum_any hy hz hu hv hx hy').mono fun e w' ⟨h, b⟩ => ⟨h.trans ?_, b⟩
 unfold ordN lex
 rw [reQ_rat, reQ_rat, imQ_rat, imQ_rat]
theorem EqB_is1_27 : Is1 Tryz.prog 27 := ⟨⟨_, Tryz.underlying27, rfl⟩, by kernel_rfl⟩
theorem EqB_is1_28 : Is1 Tryz.prog 28 := ⟨⟨_, Tryz.underlying28, rfl⟩, by kernel_rfl⟩
theorem EqB_is1_3 : Is1 Tryz.prog 3 := ⟨⟨_, Tryz.underlying3, rfl⟩, by kernel_rfl⟩
theorem EqB_is1_9 : Is1 Tryz.prog 9 := ⟨⟨_, Tryz.underlying9, rfl⟩, by kernel_rfl⟩
theorem EqB_fld_30_0 : FieldAt Tryz.prog 30 0 0 := ⟨_, _, Tryz.underlying30, rfl, rfl, by kernel_rfl⟩
theorem EqB_fld_30_1 : FieldAt Tryz.prog 30 1 1 := ⟨_, _, Tryz.underlying30, rfl, rfl, by kernel_rfl⟩
theorem EqB_fld_30_2 : FieldAt Tryz.prog 30 2 2 := ⟨_, _, Tryz.underlying30, rfl, rfl, by kernel_rfl⟩
theorem EqB_fld_30_3 : FieldAt Tryz.prog 30 3 8 := ⟨_, _, Tryz.underlying30, rfl, rfl, by kernel_rfl⟩
theorem EqB_fld_30_4 : FieldAt Tryz.prog 30 4 9 := ⟨_, _, Tryz.underlying30, rfl, rfl, by kernel_rfl⟩
theorem EqB_fld_30_5 : FieldAt Tryz.prog 30 5 10 := ⟨_, _, Tryz.underlying30, rfl, rfl, by kernel_rfl⟩
theorem EqB_isS_26 : IsS Tryz.prog 26 6 := ⟨⟨_, Tryz.underlying26⟩, by kernel_rfl⟩
theorem EqB_isS_30 : IsS Tryz.prog 30 11 := ⟨⟨_, Tryz.underlying30⟩, by kernel_rfl⟩
def Orders (n : Nat) : Prop := ∀ {w : World} {t u : Dt}, t.tr.bulk < n → t.rd w → u.rd w → t.tr.good → u.tr.good → Calls Tryz.prog 48 #[.agg (t.d.cells t.ts.length).toArray, .agg (u.d.cells u.ts.length).toArray] w fun e w' => e = .returned (.int .i64 (ordT t.tr u.tr)) ∧ Below w.heap.size w w'
theorem cmpF_any {n : Nat} (ih : Orders n) {w : World} {t u : Dt} (ht : t.rd w) (hu : u.rd w) (gt : t.tr.good) (gu : u.tr.good) (hb : t.tr.bulk ≤ n) (hlen : t.ts.length = u.ts.length) : Calls Tryz.prog 90 #[.slice t.d.lo t.ts.length t.d.lc, .slice u.d.lo u.ts.length u.d.lc, .func (.func 48) #[] #[]] w fun e w' => e = .returned (.int .i64 (ordL (t.ts.map Dt.tr) (u.ts.map Dt.tr))) ∧ Below w.heap.size w w' := by
 have hlt := (Dt.okT ht).2
 have M : Mg w w ([]) := Mg.start w
 refine walk_of (l := [(0, .slice t.d.lo t.ts.length t.d.lc), (1, .slice u.d.lo u.ts.length u.d.lc), (2, .func (.func 48) #[] #[])]) Tryz.func90 rfl Tryz.ntmps90 rfl rfl ?_
 intro Q hret hnorm hP a A
 refine wsk fun K1 hK1 => wrl (sda A λa A↦?_)
 refine seq_end (hK1 _ _ (wsk fun K2 hK2 => wsk fun K3 hK3 => wrl (sdm A λa A↦?_)))
 refine sdo A (does_len Tryz.underlying28 rfl) λa A↦?_
 refine sdm A λa A↦?_
 refine seq_end (hK3 _ _ (wp_block (wp_loop_n (fun m_ a w1 => ∃ (i : Nat), m_ = 1 + (t.ts.length - i) ∧ (i ≤ t.ts.length ∧ ordL (t.ts.map Dt.tr) (u.ts.map Dt.tr) = ordL ((t.ts.map Dt.tr).drop i) ((u.ts.map Dt.tr).drop i)) ∧ Sl a 39 [(0, .slice t.d.lo t.ts.length t.d.lc), (1, .slice u.d.lo u.ts.length u.d.lc), (2, .func (.func 48) #[] #[]), (11, .slice t.d.lo t.ts.length t.d.lc), (12, .int .i64 (((t.ts.length : Nat) : Int))), (13, .int .i64 (((i : Nat) : Int)))] ∧ Mg w w1 ([])) _ ⟨0, rfl, ⟨Nat.zero_le _, rfl⟩, A.keep _ ⟨rfl, rfl, rfl, rfl, rfl, rfl, trivial⟩, M⟩ ?_)))
 clear M A
 rintro m_ a w4 ⟨i, rfl, hinv6, A, M⟩ K5 hK5
 obtain ⟨hi0, hin9⟩ := hinv6
 refine wsk fun K7 hK7 => wrl ?_
 rcases tf (decide (((i : Nat) : Int) < ((t.ts.length : Nat) : Int))) with hb8 | hb8
 ·
  have hb8' := of_decide_eq_true hb8
  refine sdc A bin_lss hb8 λa A↦?_
  refine seq_end (hK7 _ _ (wsk fun K9 hK9 => wp_cond_true (A.ev rfl) ?_))
  refine wp_skip (hK9 _ _ (wsk fun K10 hK10 => wp_block (wsk fun K11 hK11 => ?_)))
  obtain ⟨t1, bt1, ot1, it1, mt1, rt1_, lt1, Ht1⟩ := kidT ht (i := i) (by omega)
  obtain ⟨u1, bu1, ou1, iu1, mu1, ru1_, lu1, Hu1⟩ := kidT hu (i := i) (by omega)
  refine wrl (sdm A λa A↦?_)
  refine sdo (v := .pointer (some ⟨bt1, ot1 + i * 11, none⟩)) A (does_indexD (k := i) Tryz.underlying28 (by kernel_rfl) rfl rfl rfl lt1 (by omega)) λa A↦?_
  refine sdo A (m_loadHS M Ht1 EqB_isS_30 rfl rfl) λa A↦?_
  refine s_new (vs := [.int .i64 0, .int .i64 0, .bool false, .slice none 0 0, .slice none 0 0, .bool false, .slice none 0 0, .slice none 0 0, .string (⟨#[]⟩), .slice none 0 0, .slice none 0 0]) (t := 30) A M rfl rfl rfl pg (does_alloc (z := .agg #[.int .i64 0, .int .i64 0, .bool false, .slice none 0 0, .slice none 0 0, .bool false, .slice none 0 0, .slice none 0 0, .string (⟨#[]⟩), .slice none 0 0, .slice none 0 0]) (by kernel_rfl) rfl) (by decide) ?_
  intro g12 w13 M a A
  refine sda A λa A↦?_
  refine s_store (us := [.int .i64 t1.d.k, .int .i64 t1.d.n, .bool t1.d.y.q.b1, .slice t1.d.y.o1 t1.d.y.q.t1.length t1.d.y.c1, .slice t1.d.y.o2 t1.d.y.q.q1.length t1.d.y.c2, .bool t1.d.y.q.b2, .slice t1.d.y.o3 t1.d.y.q.t2.length t1.d.y.c3, .slice t1.d.y.o4 t1.d.y.q.q2.length t1.d.y.c4, .string t1.d.s, .slice t1.d.ro t1.d.rl.length t1.d.rc, .slice t1.d.lo t1.ts.length t1.d.lc]) (L' := (.obj g12 (.cells (t1.d.cells t1.ts.length).toArray 30) :: [])) A M rfl rfl (m_store rfl rfl rfl (by kernel_rfl) M 0 rfl rfl rfl) 0 rfl rfl rfl ?_
  intro w14 M
  refine seq_end (hK11 _ _ (wsk fun K15 hK15 => wsk fun K16 hK16 => wrl ?_))
  iterate 2 refine sdm A λa A↦?_
  refine sdo A (does_len Tryz.underlying28 rfl) λa A↦?_
  refine sdo (v := .bool false) A (does_bin rfl rfl (fun w => (bin_geq w).trans (by rw [show (decide (((u.ts.length : Nat) : Int) ≤ ((i : Nat) : Int))) = false from (decide_eq_false (by omega))]))) λa A↦?_
  refine seq_end (hK16 _ _ (wp_cond_false (A.ev rfl) ?_))
  refine wp_skip (hK15 _ _ (wsk fun K17 hK17 => wrl ?_))
  iterate 2 refine sdm A λa A↦?_
  refine sdo (v := .pointer (some ⟨bu1, ou1 + i * 11, none⟩)) A (does_indexD (k := i) Tryz.underlying28 (by kernel_rfl) rfl rfl rfl lu1 (by omega)) λa A↦?_
  refine sdo A (m_loadHS M Hu1 EqB_isS_30 rfl rfl) λa A↦?_
  refine s_new (vs := [.int .i64 0, .int .i64 0, .bool false, .slice none 0 0, .slice none 0 0, .bool false, .slice none 0 0, .slice none 0 0, .string (⟨#[]⟩), .slice none 0 0, .slice none 0 0]) (t := 30) A M rfl rfl rfl pg (does_alloc (z := .agg #[.int .i64 0, .int .i64 0, .bool false, .slice none 0 0, .slice none 0 0, .bool false, .slice none 0 0, .slice none 0 0, .string (⟨#[]⟩), .slice none 0 0, .slice none 0 0]) (by kernel_rfl) rfl) (by decide) ?_
  intro g18 w19 M a A
  refine s_store (us := [.int .i64 u1.d.k, .int .i64 u1.d.n, .bool u1.d.y.q.b1, .slice u1.d.y.o1 u1.d.y.q.t1.length u1.d.y.c1, .slice u1.d.y.o2 u1.d.y.q.q1.length u1.d.y.c2, .bool u1.d.y.q.b2, .slice u1.d.y.o3 u1.d.y.q.t2.length u1.d.y.c3, .slice u1.d.y.o4 u1.d.y.q.q2.length u1.d.y.c4, .string u1.d.s, .slice u1.d.ro u1.d.rl.length u1.d.rc, .slice u1.d.lo u1.ts.length u1.d.lc]) (L' := (.obj g18 (.cells (u1.d.cells u1.ts.length).toArray 30) :: .obj g12 (.cells (t1.d.cells t1.ts.length).toArray 30) :: [])) A M rfl rfl (m_store rfl rfl rfl (by kernel_rfl) M 0 rfl rfl rfl) 0 rfl rfl rfl ?_
  intro w20 M
  refine seq_end (hK17 _ _ (wsk fun K21 hK21 => wrl (sdm A λa A↦?_)))
  refine sdo A (m_loadS M EqB_isS_30 rfl 1 rfl (cs := [.int .i64 t1.d.k, .int .i64 t1.d.n, .bool t1.d.y.q.b1, .slice t1.d.y.o1 t1.d.y.q.t1.length t1.d.y.c1, .slice t1.d.y.o2 t1.d.y.q.q1.length t1.d.y.c2, .bool t1.d.y.q.b2, .slice t1.d.y.o3 t1.d.y.q.t2.length t1.d.y.c3, .slice t1.d.y.o4 t1.d.y.q.q2.length t1.d.y.c4, .string t1.d.s, .slice t1.d.ro t1.d.rl.length t1.d.rc, .slice t1.d.lo t1.ts.length t1.d.lc]) rfl rfl) λa A↦?_
  refine sdo A (m_loadS M EqB_isS_30 rfl 0 rfl (cs := [.int .i64 u1.d.k, .int .i64 u1.d.n, .bool u1.d.y.q.b1, .slice u1.d.y.o1 u1.d.y.q.t1.length u1.d.y.c1, .slice u1.d.y.o2 u1.d.y.q.q1.length u1.d.y.c2, .bool u1.d.y.q.b2, .slice u1.d.y.o3 u1.d.y.q.t2.length u1.d.y.c3, .slice u1.d.y.o4 u1.d.y.q.q2.length u1.d.y.c4, .string u1.d.s, .slice u1.d.ro u1.d.rl.length u1.d.rc, .slice u1.d.lo u1.ts.length u1.d.lc]) rfl rfl) λa A↦?_
  refine gcl A M (ef rfl rfl) (ih (by have := bulkT mt1; omega) (Dt.keep M.bel _ rt1_) (Dt.keep M.bel _ ru1_) ((good_at gt).2.2 _ mt1) ((good_at gu).2.2 _ mu1)) fun w23 hb22 M a A => ?_
  refine sda A λa A↦?_
  refine seq_end (hK21 _ _ (wsk fun K24 hK24 => wrl (sdm A λa A↦?_)))
  rcases tf ((ordT t1.tr u1.tr != 0)) with hb25 | hb25
  ·
   have hb25' := bne_iff_ne.1 hb25
   refine sdc A bin_neq hb25 λa A↦?_
   refine seq_end (hK24 _ _ (wp_cond_true (A.ev rfl) ?_))
   refine wsk fun K26 hK26 => wrl (sdm A λa A↦?_)
   refine sda A λa A↦?_
   refine seq_end (hK26 _ _ (wp_ret (hret _ _ (en1 A rfl (res_tmp rfl) ?_))))
   exact ⟨by rw [hin9, ordL_go it1 iu1, lex_n hb25'], M.bel⟩
  ·
   have hb25' := bne_eq_false_iff_eq.1 hb25
   refine sdc A bin_neq hb25 λa A↦?_
   refine seq_end (hK24 _ _ (wp_cond_false (A.ev rfl) ?_))
   refine wp_skip (hK10 _ _ (wrl (sdo (v := .int .i64 (((i + 1 : Nat) : Int))) A (does_bin rfl rfl (fun w => (bin_add (i64In (by omega) (by omega)) w).trans (by rw [show (((i : Nat) : Int) + 1 : Int) = ((i + 1 : Nat) : Int) from by omega]))) λa A↦?_)))
   refine sdm A λa A↦?_
   refine seq_end ?_
   replace M : Mg w w23 ([]) := by
    have h9 := M.sub (.cons _ (.cons _ (.refl _)))
    exact h9
   refine hK5 _ _ _ (by omega) ⟨i + 1, rfl, ⟨by omega, by rw [hin9, ordL_go it1 iu1, hb25', lex_0]⟩, A.keep _ ⟨rfl, rfl, rfl, rfl, rfl, rfl, trivial⟩, M⟩
 ·
  have hb8' := of_decide_eq_false hb8
  refine sdc A bin_lss hb8 λa A↦?_
  refine seq_end (hK7 _ _ (wsk fun K27 hK27 => wp_cond_false (A.ev rfl) ?_))
  refine wp_exit (hK2 _ _ (wsk fun K28 hK28 => wsk fun K29 hK29 => wrl (sdm A λa A↦?_)))
  refine sdo A (does_len Tryz.underlying28 rfl) λa A↦?_
  refine sdm A λa A↦?_
  refine sdo A (does_len Tryz.underlying28 rfl) λa A↦?_
  refine sdo (v := .bool false) A (does_bin rfl rfl (fun w => (bin_lss w).trans (by rw [show (decide (((t.ts.length : Nat) : Int) < ((u.ts.length : Nat) : Int))) = false from (decide_eq_false (by omega))]))) λa A↦?_
  refine seq_end (hK29 _ _ (wp_cond_false (A.ev rfl) ?_))
  refine wp_skip (hK28 _ _ (wsk fun K30 hK30 => wrl (sda A λa A↦?_)))
  refine seq_end (hK30 _ _ (wp_ret (hret _ _ (en1 A rfl (res_tmp rfl) ?_))))
  exact ⟨by rw [hin9, ordL_end (by omega)], M.bel⟩
theorem vec_any {n : Nat} (ih : Orders n) {w : World} {t u : Dt} (ht : t.rd w) (hu : u.rd w) (gt : t.tr.good) (gu : u.tr.good) (hb : t.tr.bulk ≤ n) : Calls Tryz.prog 71 #[.slice t.d.lo t.ts.length t.d.lc, .slice u.d.lo u.ts.length u.d.lc] w fun e w' => e = .returned (.int .i64 (lex (cmpI (t.ts.length : Int) (u.ts.length : Int)) (ordL (t.ts.map Dt.tr) (u.ts.map Dt.tr)))) ∧ Below w.heap.size w w' := by
 have M : Mg w w ([]) := Mg.start w
 refine walk_of (l := [(0, .slice t.d.lo t.ts.length t.d.lc), (1, .slice u.d.lo u.ts.length u.d.lc)]) Tryz.func71 rfl Tryz.ntmps71 rfl rfl ?_
 intro Q hret hnorm hP a A
 refine wsk fun K1 hK1 => wrl (sda A λa A↦?_)
 refine seq_end (hK1 _ _ (wsk fun K2 hK2 => wsk fun K3 hK3 => wrl (sdm A λa A↦?_)))
 refine sdo A (does_len Tryz.underlying28 rfl) λa A↦?_
 refine sdm A λa A↦?_
 refine sdo A (does_len Tryz.underlying28 rfl) λa A↦?_
 rcases tf ((((t.ts.length : Nat) : Int) != ((u.ts.length : Nat) : Int))) with hb4 | hb4
 ·
  have hb4' := bne_iff_ne.1 hb4
  refine sdc A bin_neq hb4 λa A↦?_
  refine seq_end (hK3 _ _ (wp_cond_true (A.ev rfl) ?_))
  refine wsk fun K5 hK5 => wrl (sdm A λa A↦?_)
  refine sdo A (does_len Tryz.underlying28 rfl) λa A↦?_
  refine sdm A λa A↦?_
  refine sdo A (does_len Tryz.underlying28 rfl) λa A↦?_
  refine gcl A M (ef rfl rfl) (cmpi_any) fun w7 hb6 M a A => ?_
  refine sda A λa A↦?_
  refine seq_end (hK5 _ _ (wp_ret (hret _ _ (en1 A rfl (res_tmp rfl) ?_))))
  exact ⟨by rw [lex_n (fun e => hb4' (cmpI_zero e))], M.bel⟩
 ·
  have hb4' := bne_eq_false_iff_eq.1 hb4
  refine sdc A bin_neq hb4 λa A↦?_
  refine seq_end (hK3 _ _ (wp_cond_false (A.ev rfl) ?_))
  refine wp_skip (hK2 _ _ (wsk fun K8 hK8 => wrl ?_))
  iterate 2 refine sdm A λa A↦?_
  refine gcl A M (ef rfl rfl) (cmpF_any ih (Dt.keep M.bel _ ht) (Dt.keep M.bel _ hu) gt gu hb (by omega)) fun w9 hbv M a A => ?_
  refine sda A λa A↦?_
  refine seq_end (hK8 _ _ (wp_ret (hret _ _ (en1 A rfl (res_tmp rfl) ?_))))
  exact ⟨by rw [hb4', cmpI_self, lex_0], M.bel⟩
theorem orders_step {n : Nat} (ih : Orders n) : Orders (n + 1) := by
 intro w t u hn ht hu gt gu
 have M : Mg w w ([]) := Mg.start w
 refine walk_of (l := [(0, .agg (t.d.cells t.ts.length).toArray), (1, .agg (u.d.cells u.ts.length).toArray)]) Tryz.func48 rfl Tryz.ntmps48 rfl rfl ?_
 intro Q hret hnorm hP a A
 refine wsk fun K1 hK1 => wrl (s_new (vs := [.int .i64 t.d.k, .int .i64 t.d.n, .bool t.d.y.q.b1, .slice t.d.y.o1 t.d.y.q.t1.length t.d.y.c1, .slice t.d.y.o2 t.d.y.q.q1.length t.d.y.c2, .bool t.d.y.q.b2, .slice t.d.y.o3 t.d.y.q.t2.length t.d.y.c3, .slice t.d.y.o4 t.d.y.q.q2.length t.d.y.c4, .string t.d.s, .slice t.d.ro t.d.rl.length t.d.rc, .slice t.d.lo t.ts.length t.d.lc]) (t := 30) A M rfl rfl rfl pg (does_box rfl rfl) (by decide) ?_)
 intro g2 w3 M a A
 refine s_new (vs := [.int .i64 u.d.k, .int .i64 u.d.n, .bool u.d.y.q.b1, .slice u.d.y.o1 u.d.y.q.t1.length u.d.y.c1, .slice u.d.y.o2 u.d.y.q.q1.length u.d.y.c2, .bool u.d.y.q.b2, .slice u.d.y.o3 u.d.y.q.t2.length u.d.y.c3, .slice u.d.y.o4 u.d.y.q.q2.length u.d.y.c4, .string u.d.s, .slice u.d.ro u.d.rl.length u.d.rc, .slice u.d.lo u.ts.length u.d.lc]) (t := 30) A M rfl rfl rfl pg (does_box rfl rfl) (by decide) ?_
 intro g4 w5 M a A
 refine sda A λa A↦?_
 refine seq_end (hK1 _ _ (wsk fun K6 hK6 => wp_block (wp_loop_n (fun m_ a w1 => ∃ (p : Dt) (r : Dt), m_ = 1 + p.tr.bulk ∧ (p.rd w ∧ r.rd w ∧ p.tr.good ∧ r.tr.good ∧ p.tr.bulk ≤ t.tr.bulk ∧ ordT t.tr u.tr = ordT p.tr r.tr) ∧ Sl a 84 [(0, .agg (t.d.cells t.ts.length).toArray), (1, .agg (u.d.cells u.ts.length).toArray), (2, .pointer (some ⟨g2, 0, none⟩)), (3, .pointer (some ⟨g4, 0, none⟩))] ∧ Mg w w1 (.obj g4 (.cells (r.d.cells r.ts.length).toArray 30) :: .obj g2 (.cells (p.d.cells p.ts.length).toArray 30) :: [])) _ ⟨t, u, rfl, ⟨ht, hu, gt, gu, Nat.le_refl _, rfl⟩, A.keep _ ⟨rfl, rfl, rfl, rfl, trivial⟩, M⟩ ?_)))
 clear M A
 rintro m_ a w7 ⟨p, r, rfl, hinv9, A, M⟩ K8 hK8
 obtain ⟨hp, hr, gp, gr, hbk, hin9⟩ := hinv9
 refine wsk fun K10 hK10 => wsk fun K11 hK11 => wrl (sdo (v := .pointer (some ⟨g2, 0, none⟩)) A (does_field EqB_fld_30_0 rfl rfl) λa A↦?_)
 refine sdo A (m_load1 M EqB_is1_3 rfl 1 rfl rfl) λa A↦?_
 rcases tf ((p.d.k == 8)) with hb12 | hb12
 ·
  have hb12' := eq_of_beq hb12
  refine sdc A bin_eql hb12 λa A↦?_
  refine sdm A λa A↦?_
  refine sdo (v := .pointer (some ⟨g4, 0, none⟩)) A (does_field EqB_fld_30_0 rfl rfl) λa A↦?_
  refine sdo A (m_load1 M EqB_is1_3 rfl 0 rfl rfl) λa A↦?_
  rcases tf ((r.d.k == 8)) with hb13 | hb13
  ·
   have hb13' := eq_of_beq hb13
   refine sdc A bin_eql hb13 λa A↦?_
   refine sdk (v := .bool true) A λa A↦?_
   refine seq_end (hK11 _ _ (wp_cond_true (A.ev rfl) ?_))
   refine wp_skip (hK10 _ _ (wp_block (wsk fun K14 hK14 => wsk fun K15 hK15 => ?_)))
   have l2p := (good_at gp).1.h8 hb12'
   have l2r := (good_at gr).1.h8 hb13'
   obtain ⟨p0, bp0, op0, ip0, mp0, rp0_, lp0, Hp0⟩ := kidT hp (i := 0) (by omega)
   obtain ⟨p1, bp1, op1, ip1, mp1, rp1_, lp1, Hp1⟩ := kidT hp (i := 1) (by omega)
   obtain ⟨r0, br0, or0, ir0, mr0, rr0_, lr0, Hr0⟩ := kidT hr (i := 0) (by omega)
   obtain ⟨r1, br1, or1, ir1, mr1, rr1_, lr1, Hr1⟩ := kidT hr (i := 1) (by omega)
   have hpq := ord_pair hb12' hb13' l2p l2r ip0 ip1 ir0 ir1
   refine wp_draw (S := fun w1 => Mg w w1 (.obj g4 (.cells (r.d.cells r.ts.length).toArray 30) :: .obj g2 (.cells (p.d.cells p.ts.length).toArray 30) :: [])) (by kernel_rfl) ?_
   replace M := M.drew
   refine any_tk (v := .pointer (some ⟨g2, 10, none⟩)) A 0 rfl rfl rfl rfl hP (M.sub (.cons_cons _ (.cons_cons _ (List.nil_sublist _)))) (fun w1 M => does_field EqB_fld_30_5 rfl rfl) λa A↦?_
   refine any_tk A 1 rfl rfl rfl rfl hP (M.sub (.cons_cons _ (.cons_cons _ (List.nil_sublist _)))) (fun w1 M => m_load1 M EqB_is1_28 rfl 1 rfl rfl) λa A↦?_
   refine any_tk (v := .pointer (some ⟨bp0, op0 + 0 * 11, none⟩)) A 2 rfl rfl rfl rfl hP (M.sub (.cons_cons _ (.cons_cons _ (List.nil_sublist _)))) (fun w1 M => does_indexD (k := 0) Tryz.underlying28 (by kernel_rfl) rfl rfl rfl lp0 (by omega)) λa A↦?_
   refine any_tk A 3 rfl rfl rfl rfl hP (M.sub (.cons_cons _ (.cons_cons _ (List.nil_sublist _)))) (fun w1 M => m_loadHS M Hp0 EqB_isS_30 rfl rfl) λa A↦?_
   refine any_tk (v := .pointer (some ⟨g4, 10, none⟩)) A 4 rfl rfl rfl rfl hP (M.sub (.cons_cons _ (.cons_cons _ (List.nil_sublist _)))) (fun w1 M => does_field EqB_fld_30_5 rfl rfl) λa A↦?_
   refine any_tk A 5 rfl rfl rfl rfl hP (M.sub (.cons_cons _ (.cons_cons _ (List.nil_sublist _)))) (fun w1 M => m_load1 M EqB_is1_28 rfl 0 rfl rfl) λa A↦?_
   refine any_tk (v := .pointer (some ⟨br0, or0 + 0 * 11, none⟩)) A 6 rfl rfl rfl rfl hP (M.sub (.cons_cons _ (.cons_cons _ (List.nil_sublist _)))) (fun w1 M => does_indexD (k := 0) Tryz.underlying28 (by kernel_rfl) rfl rfl rfl lr0 (by omega)) λa A↦?_
   refine any_tk A 7 rfl rfl rfl rfl hP (M.sub (.cons_cons _ (.cons_cons _ (List.nil_sublist _)))) (fun w1 M => m_loadHS M Hr0 EqB_isS_30 rfl rfl) λa A↦?_
   refine any_one (by kernel_rfl) (op_call A 8 rfl rfl rfl rfl (enters_func rfl rfl (fun w => by kernel_rfl)) (ih (by have := bulkT mp0; omega) (Dt.keep M.bel _ rp0_) (Dt.keep M.bel _ rr0_) ((good_at gp).2.2 _ mp0) ((good_at gr).2.2 _ mr0)) ?_)
   rintro _ w17 ⟨rfl, hb16⟩
   replace M := M.call hb16
   refine ⟨_, rfl, (M.sub (.cons_cons _ (.cons_cons _ (List.nil_sublist _)))), ?_⟩
   intro a A
   refine any_tk A 9 rfl rfl rfl rfl hP (M.sub (.cons_cons _ (.cons_cons _ (List.nil_sublist _)))) (fun w1 M => does_assign rfl) λa A↦?_
   refine any_end (by kernel_rfl) ?_
   refine hK15 _ _ (wsk fun K18 hK18 => wrl (sdm A λa A↦?_))
   rcases tf ((ordT p0.tr r0.tr != 0)) with hb19 | hb19
   ·
    have hb19' := bne_iff_ne.1 hb19
    refine sdc A bin_neq hb19 λa A↦?_
    refine seq_end (hK18 _ _ (wp_cond_true (A.ev rfl) ?_))
    refine wsk fun K20 hK20 => wrl (sdm A λa A↦?_)
    refine sda A λa A↦?_
    refine seq_end (hK20 _ _ (wp_ret (hret _ _ (en1 A rfl (res_tmp rfl) ?_))))
    exact ⟨by rw [hin9, hpq, lex_n hb19'], M.bel⟩
   ·
    have hb19' := bne_eq_false_iff_eq.1 hb19
    refine sdc A bin_neq hb19 λa A↦?_
    refine seq_end (hK18 _ _ (wp_cond_false (A.ev rfl) ?_))
    refine wp_skip (hK14 _ _ ?_)
    have hJ21 : ∀ a w1, (∃ (z_ : Unit), Sl a 84 [(0, .agg (t.d.cells t.ts.length).toArray), (1, .agg (u.d.cells u.ts.length).toArray), (2, .pointer (some ⟨g2, 0, none⟩)), (3, .pointer (some ⟨g4, 0, none⟩)), (5, .int .i64 (ordT p0.tr r0.tr)), (6, .pointer (some ⟨g2, 0, none⟩)), (7, .int .i64 p.d.k), (8, .bool true), (9, .bool true), (10, .pointer (some ⟨g4, 0, none⟩)), (11, .int .i64 r.d.k), (12, .bool true), (13, .bool true), (14, .pointer (some ⟨g2, 10, none⟩)), (15, .slice p.d.lo p.ts.length p.d.lc), (16, .pointer (some ⟨bp0, op0 + 0 * 11, none⟩)), (17, .agg (p0.d.cells p0.ts.length).toArray), (18, .pointer (some ⟨g4, 10, none⟩)), (19, .slice r.d.lo r.ts.length r.d.lc), (20, .pointer (some ⟨br0, or0 + 0 * 11, none⟩)), (21, .agg (r0.d.cells r0.ts.length).toArray), (22, .int .i64 (ordT p0.tr r0.tr)), (23, .int .i64 (ordT p0.tr r0.tr)), (24, .bool false)] ∧ Mg w w1 (.obj g4 (.cells (r1.d.cells r1.ts.length).toArray 30) :: .obj g2 (.cells (p1.d.cells p1.ts.length).toArray 30) :: [])) → K8 a w1 := by
     clear A M
     rintro a w22 ⟨z_, A, M⟩
     refine hK8 _ _ _ (by have := bulkT mp1; omega) ⟨p1, r1, rfl, ⟨rp1_, rr1_, (good_at gp).2.2 _ mp1, (good_at gr).2.2 _ mr1, by have := bulkT mp1; omega, by rw [hin9, hpq, hb19', lex_0]⟩, A.keep _ ⟨rfl, rfl, rfl, rfl, trivial⟩, M⟩
    refine wp_draw (S := fun w1 => Mg w w1 ([])) (by kernel_rfl) ?_
    replace M := M.drew
    refine any_tk (v := .pointer (some ⟨g2, 10, none⟩)) A 0 rfl rfl rfl rfl hP (M.sub (.cons _ (.cons _ (List.nil_sublist _)))) (fun w1 M => does_field EqB_fld_30_5 rfl rfl) λa A↦?_
    refine any_tk (v := .pointer (some ⟨g4, 10, none⟩)) A 4 rfl rfl rfl rfl hP (M.sub (.cons _ (.cons _ (List.nil_sublist _)))) (fun w1 M => does_field EqB_fld_30_5 rfl rfl) λa A↦?_
    refine any_many (rs := [1, 5]) (by kernel_rfl) (by simp) ⟨?_, ?_, trivial⟩
    ·
     refine op_do A 1 rfl rfl rfl rfl (m_load1 M EqB_is1_28 rfl 1 rfl rfl) (M.sub (.cons _ (.cons _ (List.nil_sublist _)))) λa A↦?_
     refine any_tk (v := .pointer (some ⟨bp1, op1 + 1 * 11, none⟩)) A 2 rfl rfl rfl rfl hP (M.sub (.cons _ (.cons _ (List.nil_sublist _)))) (fun w1 M => does_indexD (k := 1) Tryz.underlying28 (by kernel_rfl) rfl rfl rfl lp1 (by omega)) λa A↦?_
     refine any_tk A 3 rfl rfl rfl rfl hP (M.sub (.cons _ (.cons _ (List.nil_sublist _)))) (fun w1 M => m_loadHS M Hp1 EqB_isS_30 rfl rfl) λa A↦?_
     refine any_many (rs := [5, 8]) (by kernel_rfl) (by simp) ⟨?_, ?_, trivial⟩
     ·
      refine op_do A 5 rfl rfl rfl rfl (m_load1 M EqB_is1_28 rfl 0 rfl rfl) (M.sub (.cons _ (.cons _ (List.nil_sublist _)))) λa A↦?_
      refine any_tk (v := .pointer (some ⟨br1, or1 + 1 * 11, none⟩)) A 6 rfl rfl rfl rfl hP (M.sub (.cons _ (.cons _ (List.nil_sublist _)))) (fun w1 M => does_indexD (k := 1) Tryz.underlying28 (by kernel_rfl) rfl rfl rfl lr1 (by omega)) λa A↦?_
      refine any_tk A 7 rfl rfl rfl rfl hP (M.sub (.cons _ (.cons _ (List.nil_sublist _)))) (fun w1 M => m_loadHS M Hr1 EqB_isS_30 rfl rfl) λa A↦?_
      refine any_one (by kernel_rfl) (g_store (us := [.int .i64 p1.d.k, .int .i64 p1.d.n, .bool p1.d.y.q.b1, .slice p1.d.y.o1 p1.d.y.q.t1.length p1.d.y.c1, .slice p1.d.y.o2 p1.d.y.q.q1.length p1.d.y.c2, .bool p1.d.y.q.b2, .slice p1.d.y.o3 p1.d.y.q.t2.length p1.d.y.c3, .slice p1.d.y.o4 p1.d.y.q.q2.length p1.d.y.c4, .string p1.d.s, .slice p1.d.ro p1.d.rl.length p1.d.rc, .slice p1.d.lo p1.ts.length p1.d.lc]) (L' := (.obj g4 (.cells (r.d.cells r.ts.length).toArray 30) :: .obj g2 (.cells (p1.d.cells p1.ts.length).toArray 30) :: [])) A M 8 rfl rfl rfl (m_store rfl rfl rfl (by kernel_rfl) M 1 rfl rfl rfl) 1 rfl rfl rfl ?_)
      intro w23 M
      refine ⟨(M.sub (.cons _ (.cons _ (List.nil_sublist _)))), ?_⟩
      refine any_one (by kernel_rfl) (g_store (us := [.int .i64 r1.d.k, .int .i64 r1.d.n, .bool r1.d.y.q.b1, .slice r1.d.y.o1 r1.d.y.q.t1.length r1.d.y.c1, .slice r1.d.y.o2 r1.d.y.q.q1.length r1.d.y.c2, .bool r1.d.y.q.b2, .slice r1.d.y.o3 r1.d.y.q.t2.length r1.d.y.c3, .slice r1.d.y.o4 r1.d.y.q.q2.length r1.d.y.c4, .string r1.d.s, .slice r1.d.ro r1.d.rl.length r1.d.rc, .slice r1.d.lo r1.ts.length r1.d.lc]) (L' := (.obj g4 (.cells (r1.d.cells r1.ts.length).toArray 30) :: .obj g2 (.cells (p1.d.cells p1.ts.length).toArray 30) :: [])) A M 9 rfl rfl rfl (m_store rfl rfl rfl (by kernel_rfl) M 0 rfl rfl rfl) 0 rfl rfl rfl ?_)
      intro w24 M
      refine ⟨(M.sub (.cons _ (.cons _ (List.nil_sublist _)))), ?_⟩
      refine any_end (by kernel_rfl) ?_
      exact hJ21 _ _ ⟨(), A.keep _ ⟨rfl, rfl, rfl, rfl, rfl, rfl, rfl, rfl, rfl, rfl, rfl, rfl, rfl, rfl, rfl, rfl, rfl, rfl, rfl, rfl, rfl, rfl, rfl, rfl, trivial⟩, M⟩
     ·
      refine g_store (us := [.int .i64 p1.d.k, .int .i64 p1.d.n, .bool p1.d.y.q.b1, .slice p1.d.y.o1 p1.d.y.q.t1.length p1.d.y.c1, .slice p1.d.y.o2 p1.d.y.q.q1.length p1.d.y.c2, .bool p1.d.y.q.b2, .slice p1.d.y.o3 p1.d.y.q.t2.length p1.d.y.c3, .slice p1.d.y.o4 p1.d.y.q.q2.length p1.d.y.c4, .string p1.d.s, .slice p1.d.ro p1.d.rl.length p1.d.rc, .slice p1.d.lo p1.ts.length p1.d.lc]) (L' := (.obj g4 (.cells (r.d.cells r.ts.length).toArray 30) :: .obj g2 (.cells (p1.d.cells p1.ts.length).toArray 30) :: [])) A M 8 rfl rfl rfl (m_store rfl rfl rfl (by kernel_rfl) M 1 rfl rfl rfl) 1 rfl rfl rfl ?_
      intro w25 M
      refine ⟨(M.sub (.cons _ (.cons _ (List.nil_sublist _)))), ?_⟩
      refine any_one (by kernel_rfl) (op_do A 5 rfl rfl rfl rfl (m_load1 M EqB_is1_28 rfl 0 rfl rfl) (M.sub (.cons _ (.cons _ (List.nil_sublist _)))) ?_)
      intro a A
      refine any_tk (v := .pointer (some ⟨br1, or1 + 1 * 11, none⟩)) A 6 rfl rfl rfl rfl hP (M.sub (.cons _ (.cons _ (List.nil_sublist _)))) (fun w1 M => does_indexD (k := 1) Tryz.underlying28 (by kernel_rfl) rfl rfl rfl lr1 (by omega)) λa A↦?_
      refine any_tk A 7 rfl rfl rfl rfl hP (M.sub (.cons _ (.cons _ (List.nil_sublist _)))) (fun w1 M => m_loadHS M Hr1 EqB_isS_30 rfl rfl) λa A↦?_
      refine any_one (by kernel_rfl) (g_store (us := [.int .i64 r1.d.k, .int .i64 r1.d.n, .bool r1.d.y.q.b1, .slice r1.d.y.o1 r1.d.y.q.t1.length r1.d.y.c1, .slice r1.d.y.o2 r1.d.y.q.q1.length r1.d.y.c2, .bool r1.d.y.q.b2, .slice r1.d.y.o3 r1.d.y.q.t2.length r1.d.y.c3, .slice r1.d.y.o4 r1.d.y.q.q2.length r1.d.y.c4, .string r1.d.s, .slice r1.d.ro r1.d.rl.length r1.d.rc, .slice r1.d.lo r1.ts.length r1.d.lc]) (L' := (.obj g4 (.cells (r1.d.cells r1.ts.length).toArray 30) :: .obj g2 (.cells (p1.d.cells p1.ts.length).toArray 30) :: [])) A M 9 rfl rfl rfl (m_store rfl rfl rfl (by kernel_rfl) M 0 rfl rfl rfl) 0 rfl rfl rfl ?_)
      intro w26 M
      refine ⟨(M.sub (.cons _ (.cons _ (List.nil_sublist _)))), ?_⟩
      refine any_end (by kernel_rfl) ?_
      exact hJ21 _ _ ⟨(), A.keep _ ⟨rfl, rfl, rfl, rfl, rfl, rfl, rfl, rfl, rfl, rfl, rfl, rfl, rfl, rfl, rfl, rfl, rfl, rfl, rfl, rfl, rfl, rfl, rfl, rfl, trivial⟩, M⟩
    ·
     refine op_do A 5 rfl rfl rfl rfl (m_load1 M EqB_is1_28 rfl 0 rfl rfl) (M.sub (.cons _ (.cons _ (List.nil_sublist _)))) λa A↦?_
     refine any_tk (v := .pointer (some ⟨br1, or1 + 1 * 11, none⟩)) A 6 rfl rfl rfl rfl hP (M.sub (.cons _ (.cons _ (List.nil_sublist _)))) (fun w1 M => does_indexD (k := 1) Tryz.underlying28 (by kernel_rfl) rfl rfl rfl lr1 (by omega)) λa A↦?_
     refine any_tk A 7 rfl rfl rfl rfl hP (M.sub (.cons _ (.cons _ (List.nil_sublist _)))) (fun w1 M => m_loadHS M Hr1 EqB_isS_30 rfl rfl) λa A↦?_
     refine any_one (by kernel_rfl) (op_do A 1 rfl rfl rfl rfl (m_load1 M EqB_is1_28 rfl 1 rfl rfl) (M.sub (.cons _ (.cons _ (List.nil_sublist _)))) ?_)
     intro a A
     refine any_tk (v := .pointer (some ⟨bp1, op1 + 1 * 11, none⟩)) A 2 rfl rfl rfl rfl hP (M.sub (.cons _ (.cons _ (List.nil_sublist _)))) (fun w1 M => does_indexD (k := 1) Tryz.underlying28 (by kernel_rfl) rfl rfl rfl lp1 (by omega)) λa A↦?_
     refine any_tk A 3 rfl rfl rfl rfl hP (M.sub (.cons _ (.cons _ (List.nil_sublist _)))) (fun w1 M => m_loadHS M Hp1 EqB_isS_30 rfl rfl) λa A↦?_
     refine any_one (by kernel_rfl) (g_store (us := [.int .i64 p1.d.k, .int .i64 p1.d.n, .bool p1.d.y.q.b1, .slice p1.d.y.o1 p1.d.y.q.t1.length p1.d.y.c1, .slice p1.d.y.o2 p1.d.y.q.q1.length p1.d.y.c2, .bool p1.d.y.q.b2, .slice p1.d.y.o3 p1.d.y.q.t2.length p1.d.y.c3, .slice p1.d.y.o4 p1.d.y.q.q2.length p1.d.y.c4, .string p1.d.s, .slice p1.d.ro p1.d.rl.length p1.d.rc, .slice p1.d.lo p1.ts.length p1.d.lc]) (L' := (.obj g4 (.cells (r.d.cells r.ts.length).toArray 30) :: .obj g2 (.cells (p1.d.cells p1.ts.length).toArray 30) :: [])) A M 8 rfl rfl rfl (m_store rfl rfl rfl (by kernel_rfl) M 1 rfl rfl rfl) 1 rfl rfl rfl ?_)
     intro w27 M
     refine ⟨(M.sub (.cons _ (.cons _ (List.nil_sublist _)))), ?_⟩
     refine any_one (by kernel_rfl) (g_store (us := [.int .i64 r1.d.k, .int .i64 r1.d.n, .bool r1.d.y.q.b1, .slice r1.d.y.o1 r1.d.y.q.t1.length r1.d.y.c1, .slice r1.d.y.o2 r1.d.y.q.q1.length r1.d.y.c2, .bool r1.d.y.q.b2, .slice r1.d.y.o3 r1.d.y.q.t2.length r1.d.y.c3, .slice r1.d.y.o4 r1.d.y.q.q2.length r1.d.y.c4, .string r1.d.s, .slice r1.d.ro r1.d.rl.length r1.d.rc, .slice r1.d.lo r1.ts.length r1.d.lc]) (L' := (.obj g4 (.cells (r1.d.cells r1.ts.length).toArray 30) :: .obj g2 (.cells (p1.d.cells p1.ts.length).toArray 30) :: [])) A M 9 rfl rfl rfl (m_store rfl rfl rfl (by kernel_rfl) M 0 rfl rfl rfl) 0 rfl rfl rfl ?_)
     intro w28 M
     refine ⟨(M.sub (.cons _ (.cons _ (List.nil_sublist _)))), ?_⟩
     refine any_end (by kernel_rfl) ?_
     exact hJ21 _ _ ⟨(), A.keep _ ⟨rfl, rfl, rfl, rfl, rfl, rfl, rfl, rfl, rfl, rfl, rfl, rfl, rfl, rfl, rfl, rfl, rfl, rfl, rfl, rfl, rfl, rfl, rfl, rfl, trivial⟩, M⟩
  ·
   have hb13' := ne_of_beq_false hb13
   refine sdc A bin_eql hb13 λa A↦?_
   refine sdk (v := .bool false) A λa A↦?_
   refine seq_end (hK11 _ _ (wp_cond_false (A.ev rfl) ?_))
   refine wp_exit (hK6 _ _ (wsk fun K29 hK29 => wsk fun K30 hK30 => wrl (sdo (v := .pointer (some ⟨g2, 0, none⟩)) A (does_field EqB_fld_30_0 rfl rfl) λa A↦?_)))
   refine sdo A (m_load1 M EqB_is1_3 rfl 1 rfl rfl) λa A↦?_
   refine sdo (v := .pointer (some ⟨g4, 0, none⟩)) A (does_field EqB_fld_30_0 rfl rfl) λa A↦?_
   refine sdo A (m_load1 M EqB_is1_3 rfl 0 rfl rfl) λa A↦?_
   refine sdo (v := .bool true) A (does_bin rfl rfl (fun w => (bin_neq w).trans (by rw [show ((p.d.k != r.d.k)) = true from (bne_iff_ne.2 (by omega))]))) λa A↦?_
   refine seq_end (hK30 _ _ (wp_cond_true (A.ev rfl) ?_))
   refine wsk fun K31 hK31 => wrl (sdo (v := .pointer (some ⟨g2, 0, none⟩)) A (does_field EqB_fld_30_0 rfl rfl) λa A↦?_)
   refine sdo A (m_load1 M EqB_is1_3 rfl 1 rfl rfl) λa A↦?_
   refine sdo (v := .pointer (some ⟨g4, 0, none⟩)) A (does_field EqB_fld_30_0 rfl rfl) λa A↦?_
   refine sdo A (m_load1 M EqB_is1_3 rfl 0 rfl rfl) λa A↦?_
   refine gcl A M (ef rfl rfl) (cmpi_any) fun w33 hb32 M a A => ?_
   refine sda A λa A↦?_
   refine seq_end (hK31 _ _ (wp_ret (hret _ _ (en1 A rfl (res_tmp rfl) ?_))))
   exact ⟨by rw [hin9, ord_kind (by omega)], M.bel⟩
 ·
  have hb12' := ne_of_beq_false hb12
  refine sdc A bin_eql hb12 λa A↦?_
  refine sdm A λa A↦?_
  iterate 3 refine seq_skip A rfl rfl rfl λa A↦?_
  refine sdk (v := .bool false) A λa A↦?_
  refine seq_end (hK11 _ _ (wp_cond_false (A.ev rfl) ?_))
  refine wp_exit (hK6 _ _ (wsk fun K34 hK34 => wsk fun K35 hK35 => wrl (sdo (v := .pointer (some ⟨g2, 0, none⟩)) A (does_field EqB_fld_30_0 rfl rfl) λa A↦?_)))
  refine sdo A (m_load1 M EqB_is1_3 rfl 1 rfl rfl) λa A↦?_
  refine sdo (v := .pointer (some ⟨g4, 0, none⟩)) A (does_field EqB_fld_30_0 rfl rfl) λa A↦?_
  refine sdo A (m_load1 M EqB_is1_3 rfl 0 rfl rfl) λa A↦?_
  rcases tf ((p.d.k != r.d.k)) with hb36 | hb36
  ·
   have hb36' := bne_iff_ne.1 hb36
   refine sdc A bin_neq hb36 λa A↦?_
   refine seq_end (hK35 _ _ (wp_cond_true (A.ev rfl) ?_))
   refine wsk fun K37 hK37 => wrl (sdo (v := .pointer (some ⟨g2, 0, none⟩)) A (does_field EqB_fld_30_0 rfl rfl) λa A↦?_)
   refine sdo A (m_load1 M EqB_is1_3 rfl 1 rfl rfl) λa A↦?_
   refine sdo (v := .pointer (some ⟨g4, 0, none⟩)) A (does_field EqB_fld_30_0 rfl rfl) λa A↦?_
   refine sdo A (m_load1 M EqB_is1_3 rfl 0 rfl rfl) λa A↦?_
   refine gcl A M (ef rfl rfl) (cmpi_any) fun w39 hb38 M a A => ?_
   refine sda A λa A↦?_
   refine seq_end (hK37 _ _ (wp_ret (hret _ _ (en1 A rfl (res_tmp rfl) ?_))))
   exact ⟨by rw [hin9, ord_kind (by omega)], M.bel⟩
  ·
   have hb36' := bne_eq_false_iff_eq.1 hb36
   refine sdc A bin_neq hb36 λa A↦?_
   refine seq_end (hK35 _ _ (wp_cond_false (A.ev rfl) ?_))
   refine wp_skip (hK34 _ _ (wsk fun K40 hK40 => wsk fun K41 hK41 => wrl (sdo (v := .pointer (some ⟨g2, 0, none⟩)) A (does_field EqB_fld_30_0 rfl rfl) λa A↦?_)))
   refine sdo A (m_load1 M EqB_is1_3 rfl 1 rfl rfl) λa A↦?_
   refine seq_end (hK41 _ _ (wp_block (wsk fun K42 hK42 => wsk fun K43 hK43 => wrl ?_)))
   rcases tf ((p.d.k == 2)) with hb44 | hb44
   ·
    have hb44' := eq_of_beq hb44
    refine sdc A bin_eql hb44 λa A↦?_
    refine sda A λa A↦?_
    refine seq_end (hK43 _ _ (wp_cond_true (A.ev rfl) ?_))
    refine wp_skip (hK42 _ _ (wp_cond_true (A.ev rfl) ?_))
    refine wsk fun K45 hK45 => wrl (sdo (v := .pointer (some ⟨g2, 1, none⟩)) A (does_field EqB_fld_30_1 rfl rfl) λa A↦?_)
    refine sdo A (m_load1 M EqB_is1_3 rfl 1 rfl rfl) λa A↦?_
    refine sdo (v := .pointer (some ⟨g4, 1, none⟩)) A (does_field EqB_fld_30_1 rfl rfl) λa A↦?_
    refine sdo A (m_load1 M EqB_is1_3 rfl 0 rfl rfl) λa A↦?_
    refine gcl A M (ef rfl rfl) (cmpi_any) fun w47 hb46 M a A => ?_
    refine sda A λa A↦?_
    refine seq_end (hK45 _ _ (wp_ret (hret _ _ (en1 A rfl (res_tmp rfl) ?_))))
    exact ⟨by
     rw [hin9, ord_end gp gr (by omega) (by omega)]
     repeat (first | rw [if_pos (by omega)] | rw [if_neg (by omega)]), M.bel⟩
   ·
    have hb44' := ne_of_beq_false hb44
    refine sdc A bin_eql hb44 λa A↦?_
    refine sda A λa A↦?_
    refine seq_end (hK43 _ _ (wp_cond_false (A.ev rfl) ?_))
    refine wrl ?_
    rcases tf ((p.d.k == 4)) with hb48 | hb48
    ·
     have hb48' := eq_of_beq hb48
     refine sdc A bin_eql hb48 λa A↦?_
     refine sda A λa A↦?_
     refine seq_end (hK42 _ _ (wp_cond_true (A.ev rfl) ?_))
     refine wsk fun K49 hK49 => wrl (sdo (v := .pointer (some ⟨g2, 1, none⟩)) A (does_field EqB_fld_30_1 rfl rfl) λa A↦?_)
     refine sdo A (m_load1 M EqB_is1_3 rfl 1 rfl rfl) λa A↦?_
     refine sdo (v := .pointer (some ⟨g4, 1, none⟩)) A (does_field EqB_fld_30_1 rfl rfl) λa A↦?_
     refine sdo A (m_load1 M EqB_is1_3 rfl 0 rfl rfl) λa A↦?_
     refine gcl A M (ef rfl rfl) (cmpi_any) fun w51 hb50 M a A => ?_
     refine sda A λa A↦?_
     refine seq_end (hK49 _ _ (wp_ret (hret _ _ (en1 A rfl (res_tmp rfl) ?_))))
     exact ⟨by
      rw [hin9, ord_end gp gr (by omega) (by omega)]
      repeat (first | rw [if_pos (by omega)] | rw [if_neg (by omega)]), M.bel⟩
    ·
     have hb48' := ne_of_beq_false hb48
     refine sdc A bin_eql hb48 λa A↦?_
     refine sda A λa A↦?_
     refine seq_end (hK42 _ _ (wp_cond_false (A.ev rfl) ?_))
     refine wsk fun K52 hK52 => wrl ?_
     rcases tf ((p.d.k == 3)) with hb53 | hb53
     ·
      have hb53' := eq_of_beq hb53
      refine sdc A bin_eql hb53 λa A↦?_
      refine sda A λa A↦?_
      refine seq_end (hK52 _ _ (wp_cond_true (A.ev rfl) ?_))
      refine wsk fun K54 hK54 => wrl (sdo (v := .pointer (some ⟨g2, 2, none⟩)) A (does_field EqB_fld_30_2 rfl rfl) λa A↦?_)
      refine sdo A (m_loadS M EqB_isS_26 rfl 1 rfl (cs := [.bool p.d.y.q.b1, .slice p.d.y.o1 p.d.y.q.t1.length p.d.y.c1, .slice p.d.y.o2 p.d.y.q.q1.length p.d.y.c2, .bool p.d.y.q.b2, .slice p.d.y.o3 p.d.y.q.t2.length p.d.y.c3, .slice p.d.y.o4 p.d.y.q.q2.length p.d.y.c4]) rfl rfl) λa A↦?_
      refine sdo (v := .pointer (some ⟨g4, 2, none⟩)) A (does_field EqB_fld_30_2 rfl rfl) λa A↦?_
      refine sdo A (m_loadS M EqB_isS_26 rfl 0 rfl (cs := [.bool r.d.y.q.b1, .slice r.d.y.o1 r.d.y.q.t1.length r.d.y.c1, .slice r.d.y.o2 r.d.y.q.q1.length r.d.y.c2, .bool r.d.y.q.b2, .slice r.d.y.o3 r.d.y.q.t2.length r.d.y.c3, .slice r.d.y.o4 r.d.y.q.q2.length r.d.y.c4]) rfl rfl) λa A↦?_
      refine gcl A M (ef rfl rfl) (ordQ_any (y := p.d.y) (z := r.d.y) (Nu.below (Dt.okT hp).1.num M.bel) (Nu.below (Dt.okT hr).1.num M.bel) ((good_at gp).2.1 (by omega)) ((good_at gr).2.1 (by omega))) fun w55 hbn M a A => ?_
      refine sda A λa A↦?_
      refine seq_end (hK54 _ _ (wp_ret (hret _ _ (en1 A rfl (res_tmp rfl) ?_))))
      exact ⟨by
       rw [hin9, ord_end gp gr (by omega) (by omega)]
       repeat (first | rw [if_pos (by omega)] | rw [if_neg (by omega)]), M.bel⟩
     ·
      have hb53' := ne_of_beq_false hb53
      refine sdc A bin_eql hb53 λa A↦?_
      refine sda A λa A↦?_
      refine seq_end (hK52 _ _ (wp_cond_false (A.ev rfl) ?_))
      refine wsk fun K56 hK56 => wsk fun K57 hK57 => wrl ?_
      rcases tf ((p.d.k == 5)) with hb58 | hb58
      ·
       have hb58' := eq_of_beq hb58
       refine sdc A bin_eql hb58 λa A↦?_
       refine sda A λa A↦?_
       refine seq_end (hK57 _ _ (wp_cond_true (A.ev rfl) ?_))
       refine wp_skip (hK56 _ _ (wp_cond_true (A.ev rfl) ?_))
       refine wsk fun K59 hK59 => wrl (sdo (v := .pointer (some ⟨g2, 8, none⟩)) A (does_field EqB_fld_30_3 rfl rfl) λa A↦?_)
       refine sdo A (m_load1 M EqB_is1_9 rfl 1 rfl rfl) λa A↦?_
       refine sdo (v := .pointer (some ⟨g4, 8, none⟩)) A (does_field EqB_fld_30_3 rfl rfl) λa A↦?_
       refine sdo A (m_load1 M EqB_is1_9 rfl 0 rfl rfl) λa A↦?_
       refine gcl A M (ef rfl rfl) (scmp_any) fun w61 hb60 M a A => ?_
       refine sda A λa A↦?_
       refine seq_end (hK59 _ _ (wp_ret (hret _ _ (en1 A rfl (res_tmp rfl) ?_))))
       exact ⟨by
        rw [hin9, ord_end gp gr (by omega) (by omega)]
        repeat (first | rw [if_pos (by omega)] | rw [if_neg (by omega)]), M.bel⟩
      ·
       have hb58' := ne_of_beq_false hb58
       refine sdc A bin_eql hb58 λa A↦?_
       refine sda A λa A↦?_
       refine seq_end (hK57 _ _ (wp_cond_false (A.ev rfl) ?_))
       refine wsk fun K62 hK62 => wrl ?_
       rcases tf ((p.d.k == 6)) with hb63 | hb63
       ·
        have hb63' := eq_of_beq hb63
        refine sdc A bin_eql hb63 λa A↦?_
        refine sda A λa A↦?_
        refine seq_end (hK62 _ _ (wp_cond_true (A.ev rfl) ?_))
        refine wp_skip (hK56 _ _ (wp_cond_true (A.ev rfl) ?_))
        refine wsk fun K64 hK64 => wrl (sdo (v := .pointer (some ⟨g2, 8, none⟩)) A (does_field EqB_fld_30_3 rfl rfl) λa A↦?_)
        refine sdo A (m_load1 M EqB_is1_9 rfl 1 rfl rfl) λa A↦?_
        refine sdo (v := .pointer (some ⟨g4, 8, none⟩)) A (does_field EqB_fld_30_3 rfl rfl) λa A↦?_
        refine sdo A (m_load1 M EqB_is1_9 rfl 0 rfl rfl) λa A↦?_
        refine gcl A M (ef rfl rfl) (scmp_any) fun w66 hb65 M a A => ?_
        refine sda A λa A↦?_
        refine seq_end (hK64 _ _ (wp_ret (hret _ _ (en1 A rfl (res_tmp rfl) ?_))))
        exact ⟨by
         rw [hin9, ord_end gp gr (by omega) (by omega)]
         repeat (first | rw [if_pos (by omega)] | rw [if_neg (by omega)]), M.bel⟩
       ·
        have hb63' := ne_of_beq_false hb63
        refine sdc A bin_eql hb63 λa A↦?_
        refine sda A λa A↦?_
        refine seq_end (hK62 _ _ (wp_cond_false (A.ev rfl) ?_))
        refine wrl ?_
        rcases tf ((p.d.k == 11)) with hb67 | hb67
        ·
         have hb67' := eq_of_beq hb67
         refine sdc A bin_eql hb67 λa A↦?_
         refine sda A λa A↦?_
         refine seq_end (hK56 _ _ (wp_cond_true (A.ev rfl) ?_))
         refine wsk fun K68 hK68 => wrl (sdo (v := .pointer (some ⟨g2, 8, none⟩)) A (does_field EqB_fld_30_3 rfl rfl) λa A↦?_)
         refine sdo A (m_load1 M EqB_is1_9 rfl 1 rfl rfl) λa A↦?_
         refine sdo (v := .pointer (some ⟨g4, 8, none⟩)) A (does_field EqB_fld_30_3 rfl rfl) λa A↦?_
         refine sdo A (m_load1 M EqB_is1_9 rfl 0 rfl rfl) λa A↦?_
         refine gcl A M (ef rfl rfl) (scmp_any) fun w70 hb69 M a A => ?_
         refine sda A λa A↦?_
         refine seq_end (hK68 _ _ (wp_ret (hret _ _ (en1 A rfl (res_tmp rfl) ?_))))
         exact ⟨by
          rw [hin9, ord_end gp gr (by omega) (by omega)]
          repeat (first | rw [if_pos (by omega)] | rw [if_neg (by omega)]), M.bel⟩
        ·
         have hb67' := ne_of_beq_false hb67
         refine sdc A bin_eql hb67 λa A↦?_
         refine sda A λa A↦?_
         refine seq_end (hK56 _ _ (wp_cond_false (A.ev rfl) ?_))
         refine wsk fun K71 hK71 => wrl ?_
         rcases tf ((p.d.k == 7)) with hb72 | hb72
         ·
          have hb72' := eq_of_beq hb72
          refine sdc A bin_eql hb72 λa A↦?_
          refine sda A λa A↦?_
          refine seq_end (hK71 _ _ (wp_cond_true (A.ev rfl) ?_))
          refine wsk fun K73 hK73 => wrl (sdo (v := .pointer (some ⟨g2, 9, none⟩)) A (does_field EqB_fld_30_4 rfl rfl) λa A↦?_)
          refine sdo A (m_load1 M EqB_is1_27 rfl 1 rfl rfl) λa A↦?_
          refine sdo (v := .pointer (some ⟨g4, 9, none⟩)) A (does_field EqB_fld_30_4 rfl rfl) λa A↦?_
          refine sdo A (m_load1 M EqB_is1_27 rfl 0 rfl rfl) λa A↦?_
          refine gcl A M (ef rfl rfl) (bcmp_any ((Dt.okT hp).1.raw.below M.bel) ((Dt.okT hr).1.raw.below M.bel)) fun w75 hb74 M a A => ?_
          refine sda A λa A↦?_
          refine seq_end (hK73 _ _ (wp_ret (hret _ _ (en1 A rfl (res_tmp rfl) ?_))))
          exact ⟨by
           rw [hin9, ord_end gp gr (by omega) (by omega)]
           repeat (first | rw [if_pos (by omega)] | rw [if_neg (by omega)]), M.bel⟩
         ·
          have hb72' := ne_of_beq_false hb72
          refine sdc A bin_eql hb72 λa A↦?_
          refine sda A λa A↦?_
          refine seq_end (hK71 _ _ (wp_cond_false (A.ev rfl) ?_))
          refine wsk fun K76 hK76 => wrl ?_
          rcases tf ((p.d.k == 9)) with hb77 | hb77
          ·
           have hb77' := eq_of_beq hb77
           refine sdc A bin_eql hb77 λa A↦?_
           refine sda A λa A↦?_
           refine seq_end (hK76 _ _ (wp_cond_true (A.ev rfl) ?_))
           refine wsk fun K78 hK78 => wrl (sdo (v := .pointer (some ⟨g2, 10, none⟩)) A (does_field EqB_fld_30_5 rfl rfl) λa A↦?_)
           refine sdo A (m_load1 M EqB_is1_28 rfl 1 rfl rfl) λa A↦?_
           refine sdo (v := .pointer (some ⟨g4, 10, none⟩)) A (does_field EqB_fld_30_5 rfl rfl) λa A↦?_
           refine sdo A (m_load1 M EqB_is1_28 rfl 0 rfl rfl) λa A↦?_
           refine gcl A M (ef rfl rfl) (vec_any ih (Dt.keep M.bel _ hp) (Dt.keep M.bel _ hr) gp gr (by omega)) fun w80 hb79 M a A => ?_
           refine sda A λa A↦?_
           refine seq_end (hK78 _ _ (wp_ret (hret _ _ (en1 A rfl (res_tmp rfl) ?_))))
           exact ⟨by
            rw [hin9, ord_end gp gr (by omega) (by omega)]
            repeat (first | rw [if_pos (by omega)] | rw [if_neg (by omega)]), M.bel⟩
          ·
           have hb77' := ne_of_beq_false hb77
           refine sdc A bin_eql hb77 λa A↦?_
           refine sda A λa A↦?_
           refine seq_end (hK76 _ _ (wp_cond_false (A.ev rfl) ?_))
           refine wp_skip (hK40 _ _ (wsk fun K81 hK81 => wrl (sda A λa A↦?_)))
           refine seq_end (hK81 _ _ (wp_ret (hret _ _ (en1 A rfl (res_tmp rfl) ?_))))
           exact ⟨by
            rw [hin9, ord_end gp gr (by omega) (by omega)]
            repeat (first | rw [if_pos (by omega)] | rw [if_neg (by omega)]), M.bel⟩
theorem orders_all : ∀ n, Orders n
 | 0 => fun h => absurd h (Nat.not_lt_zero _)
 | n + 1 => orders_step (orders_all n)
theorem EqC_isS_30 : IsS Tryz.prog 30 11 := ⟨⟨_, Tryz.underlying30⟩, by kernel_rfl⟩
theorem both_any {w : World} {t u : Dt} (ht : t.rd w) (hu : u.rd w) (hT : Tabs8 w) : Calls Tryz.prog 47 #[.agg (t.d.cells t.ts.length).toArray, .agg (u.d.cells u.ts.length).toArray] w fun e w' => e = .returned (.bool (soundT shapeT t.tr && soundT shapeT u.tr : Bool)) ∧ Below w.heap.size w w' := by
 have M : Mg w w ([]) := Mg.start w
 refine walk_of (l := [(0, .agg (t.d.cells t.ts.length).toArray), (1, .agg (u.d.cells u.ts.length).toArray)]) Tryz.func47 rfl Tryz.ntmps47 rfl rfl ?_
 intro Q hret hnorm hP a A
 refine wsk fun K1 hK1 => wrl (s_new (vs := [.int .i64 t.d.k, .int .i64 t.d.n, .bool t.d.y.q.b1, .slice t.d.y.o1 t.d.y.q.t1.length t.d.y.c1, .slice t.d.y.o2 t.d.y.q.q1.length t.d.y.c2, .bool t.d.y.q.b2, .slice t.d.y.o3 t.d.y.q.t2.length t.d.y.c3, .slice t.d.y.o4 t.d.y.q.q2.length t.d.y.c4, .string t.d.s, .slice t.d.ro t.d.rl.length t.d.rc, .slice t.d.lo t.ts.length t.d.lc]) (t := 30) A M rfl rfl rfl pg (does_box rfl rfl) (by decide) ?_)
 intro g2 w3 M a A
 refine s_new (vs := [.int .i64 u.d.k, .int .i64 u.d.n, .bool u.d.y.q.b1, .slice u.d.y.o1 u.d.y.q.t1.length u.d.y.c1, .slice u.d.y.o2 u.d.y.q.q1.length u.d.y.c2, .bool u.d.y.q.b2, .slice u.d.y.o3 u.d.y.q.t2.length u.d.y.c3, .slice u.d.y.o4 u.d.y.q.q2.length u.d.y.c4, .string u.d.s, .slice u.d.ro u.d.rl.length u.d.rc, .slice u.d.lo u.ts.length u.d.lc]) (t := 30) A M rfl rfl rfl pg (does_box rfl rfl) (by decide) ?_
 intro g4 w5 M a A
 refine sda A λa A↦?_
 refine seq_end (hK1 _ _ (wsk fun K6 hK6 => wrl (sdo A (m_loadS M EqC_isS_30 rfl 1 rfl (cs := [.int .i64 t.d.k, .int .i64 t.d.n, .bool t.d.y.q.b1, .slice t.d.y.o1 t.d.y.q.t1.length t.d.y.c1, .slice t.d.y.o2 t.d.y.q.q1.length t.d.y.c2, .bool t.d.y.q.b2, .slice t.d.y.o3 t.d.y.q.t2.length t.d.y.c3, .slice t.d.y.o4 t.d.y.q.q2.length t.d.y.c4, .string t.d.s, .slice t.d.ro t.d.rl.length t.d.rc, .slice t.d.lo t.ts.length t.d.lc]) rfl rfl) λa A↦?_)))
 rcases tf (soundT shapeT t.tr) with hb7 | hb7
 ·
  refine gcl A M (ef rfl rfl) ((hb7 ▸ sound_any (t := t) (Dt.keep M.bel _ ht) (hT.below M.bel))) fun w9 hb8 M a A => ?_
  refine sdm A λa A↦?_
  refine sdo A (m_loadS M EqC_isS_30 rfl 0 rfl (cs := [.int .i64 u.d.k, .int .i64 u.d.n, .bool u.d.y.q.b1, .slice u.d.y.o1 u.d.y.q.t1.length u.d.y.c1, .slice u.d.y.o2 u.d.y.q.q1.length u.d.y.c2, .bool u.d.y.q.b2, .slice u.d.y.o3 u.d.y.q.t2.length u.d.y.c3, .slice u.d.y.o4 u.d.y.q.q2.length u.d.y.c4, .string u.d.s, .slice u.d.ro u.d.rl.length u.d.rc, .slice u.d.lo u.ts.length u.d.lc]) rfl rfl) λa A↦?_
  rcases tf (soundT shapeT u.tr) with hb10 | hb10
  ·
   refine gcl A M (ef rfl rfl) ((hb10 ▸ sound_any (t := u) (Dt.keep M.bel _ hu) (hT.below M.bel))) fun w12 hb11 M a A => ?_
   refine sdk (v := .bool true) A λa A↦?_
   refine sda A λa A↦?_
   refine seq_end (hK6 _ _ (wp_ret (hret _ _ (en1 A rfl (res_tmp rfl) ?_))))
   exact ⟨by simp_all, M.bel⟩
  ·
   refine gcl A M (ef rfl rfl) ((hb10 ▸ sound_any (t := u) (Dt.keep M.bel _ hu) (hT.below M.bel))) fun w14 hb13 M a A => ?_
   refine sdk (v := .bool false) A λa A↦?_
   refine sda A λa A↦?_
   refine seq_end (hK6 _ _ (wp_ret (hret _ _ (en1 A rfl (res_tmp rfl) ?_))))
   exact ⟨by simp_all, M.bel⟩
 ·
  refine gcl A M (ef rfl rfl) ((hb7 ▸ sound_any (t := t) (Dt.keep M.bel _ ht) (hT.below M.bel))) fun w16 hb15 M a A => ?_
  refine sdm A λa A↦?_
  iterate 2 refine seq_skip A rfl rfl rfl λa A↦?_
  refine sdk (v := .bool false) A λa A↦?_
  refine sda A λa A↦?_
  refine seq_end (hK6 _ _ (wp_ret (hret _ _ (en1 A rfl (res_tmp rfl) ?_))))
  exact ⟨by simp_all, M.bel⟩
theorem equal_any {w : World} {t u : Dt} (ht : t.rd w) (hu : u.rd w) (hT : Tabs8 w) : Calls Tryz.prog 23 #[.agg (t.d.cells t.ts.length).toArray, .agg (u.d.cells u.ts.length).toArray] w fun e w' => e = .returned (.bool (equT t.tr u.tr)) ∧ Below w.heap.size w w' := by
 have M : Mg w w ([]) := Mg.start w
 refine walk_of (l := [(0, .agg (t.d.cells t.ts.length).toArray), (1, .agg (u.d.cells u.ts.length).toArray)]) Tryz.func23 rfl Tryz.ntmps23 rfl rfl ?_
 intro Q hret hnorm hP a A
 refine wsk fun K1 hK1 => wrl (s_new (vs := [.int .i64 t.d.k, .int .i64 t.d.n, .bool t.d.y.q.b1, .slice t.d.y.o1 t.d.y.q.t1.length t.d.y.c1, .slice t.d.y.o2 t.d.y.q.q1.length t.d.y.c2, .bool t.d.y.q.b2, .slice t.d.y.o3 t.d.y.q.t2.length t.d.y.c3, .slice t.d.y.o4 t.d.y.q.q2.length t.d.y.c4, .string t.d.s, .slice t.d.ro t.d.rl.length t.d.rc, .slice t.d.lo t.ts.length t.d.lc]) (t := 30) A M rfl rfl rfl pg (does_box rfl rfl) (by decide) ?_)
 intro g2 w3 M a A
 refine s_new (vs := [.int .i64 u.d.k, .int .i64 u.d.n, .bool u.d.y.q.b1, .slice u.d.y.o1 u.d.y.q.t1.length u.d.y.c1, .slice u.d.y.o2 u.d.y.q.q1.length u.d.y.c2, .bool u.d.y.q.b2, .slice u.d.y.o3 u.d.y.q.t2.length u.d.y.c3, .slice u.d.y.o4 u.d.y.q.q2.length u.d.y.c4, .string u.d.s, .slice u.d.ro u.d.rl.length u.d.rc, .slice u.d.lo u.ts.length u.d.lc]) (t := 30) A M rfl rfl rfl pg (does_box rfl rfl) (by decide) ?_
 intro g4 w5 M a A
 refine sda A λa A↦?_
 refine seq_end (hK1 _ _ (wsk fun K6 hK6 => wrl (sdo A (m_loadS M EqC_isS_30 rfl 1 rfl (cs := [.int .i64 t.d.k, .int .i64 t.d.n, .bool t.d.y.q.b1, .slice t.d.y.o1 t.d.y.q.t1.length t.d.y.c1, .slice t.d.y.o2 t.d.y.q.q1.length t.d.y.c2, .bool t.d.y.q.b2, .slice t.d.y.o3 t.d.y.q.t2.length t.d.y.c3, .slice t.d.y.o4 t.d.y.q.q2.length t.d.y.c4, .string t.d.s, .slice t.d.ro t.d.rl.length t.d.rc, .slice t.d.lo t.ts.length t.d.lc]) rfl rfl) λa A↦?_)))
 refine sdo A (m_loadS M EqC_isS_30 rfl 0 rfl (cs := [.int .i64 u.d.k, .int .i64 u.d.n, .bool u.d.y.q.b1, .slice u.d.y.o1 u.d.y.q.t1.length u.d.y.c1, .slice u.d.y.o2 u.d.y.q.q1.length u.d.y.c2, .bool u.d.y.q.b2, .slice u.d.y.o3 u.d.y.q.t2.length u.d.y.c3, .slice u.d.y.o4 u.d.y.q.q2.length u.d.y.c4, .string u.d.s, .slice u.d.ro u.d.rl.length u.d.rc, .slice u.d.lo u.ts.length u.d.lc]) rfl rfl) λa A↦?_
 rcases tf ((soundT shapeT t.tr && soundT shapeT u.tr)) with hb7 | hb7
 ·
  refine gcl A M (ef rfl rfl) ((hb7 ▸ both_any (Dt.keep M.bel _ ht) (Dt.keep M.bel _ hu) (hT.below M.bel))) fun w9 hb8 M a A => ?_
  refine sdm A λa A↦?_
  refine sdo A (m_loadS M EqC_isS_30 rfl 1 rfl (cs := [.int .i64 t.d.k, .int .i64 t.d.n, .bool t.d.y.q.b1, .slice t.d.y.o1 t.d.y.q.t1.length t.d.y.c1, .slice t.d.y.o2 t.d.y.q.q1.length t.d.y.c2, .bool t.d.y.q.b2, .slice t.d.y.o3 t.d.y.q.t2.length t.d.y.c3, .slice t.d.y.o4 t.d.y.q.q2.length t.d.y.c4, .string t.d.s, .slice t.d.ro t.d.rl.length t.d.rc, .slice t.d.lo t.ts.length t.d.lc]) rfl rfl) λa A↦?_
  refine sdo A (m_loadS M EqC_isS_30 rfl 0 rfl (cs := [.int .i64 u.d.k, .int .i64 u.d.n, .bool u.d.y.q.b1, .slice u.d.y.o1 u.d.y.q.t1.length u.d.y.c1, .slice u.d.y.o2 u.d.y.q.q1.length u.d.y.c2, .bool u.d.y.q.b2, .slice u.d.y.o3 u.d.y.q.t2.length u.d.y.c3, .slice u.d.y.o4 u.d.y.q.q2.length u.d.y.c4, .string u.d.s, .slice u.d.ro u.d.rl.length u.d.rc, .slice u.d.lo u.ts.length u.d.lc]) rfl rfl) λa A↦?_
  refine gcl A M (ef rfl rfl) (orders_all (t.tr.bulk + 1) (Nat.lt_succ_self _) (Dt.keep M.bel _ ht) (Dt.keep M.bel _ hu) (good_of ht (both_ok hb7).1) (good_of hu (both_ok hb7).2)) fun w11 hb10 M a A => ?_
  rcases tf ((ordT t.tr u.tr == 0)) with hb12 | hb12
  ·
   have hb12' := eq_of_beq hb12
   refine sdc A bin_eql hb12 λa A↦?_
   refine sdk (v := .bool true) A λa A↦?_
   refine sda A λa A↦?_
   refine seq_end (hK6 _ _ (wp_ret (hret _ _ (en1 A rfl (res_tmp rfl) ?_))))
   exact ⟨by unfold equT; simp_all, M.bel⟩
  ·
   have hb12' := ne_of_beq_false hb12
   refine sdc A bin_eql hb12 λa A↦?_
   refine sdk (v := .bool false) A λa A↦?_
   refine sda A λa A↦?_
   refine seq_end (hK6 _ _ (wp_ret (hret _ _ (en1 A rfl (res_tmp rfl) ?_))))
   exact ⟨by unfold equT; simp_all, M.bel⟩
 ·
  refine gcl A M (ef rfl rfl) ((hb7 ▸ both_any (Dt.keep M.bel _ ht) (Dt.keep M.bel _ hu) (hT.below M.bel))) fun w14 hb13 M a A => ?_
  refine sdm A λa A↦?_
  iterate 4 refine seq_skip A rfl rfl rfl λa A↦?_
  refine sdk (v := .bool false) A λa A↦?_
  refine sda A λa A↦?_
  refine seq_end (hK6 _ _ (wp_ret (hret _ _ (en1 A rfl (res_tmp rfl) ?_))))
  exact ⟨by unfold equT; simp_all, M.bel⟩
theorem cmp_any {w : World} {t u : Dt} (ht : t.rd w) (hu : u.rd w) (hT : Tabs8 w) : Calls Tryz.prog 22 #[.agg (t.d.cells t.ts.length).toArray, .agg (u.d.cells u.ts.length).toArray] w fun e w' => e = .returned (.int .i64 (cmpT t.tr u.tr)) ∧ Below w.heap.size w w' := by
 have M : Mg w w ([]) := Mg.start w
 refine walk_of (l := [(0, .agg (t.d.cells t.ts.length).toArray), (1, .agg (u.d.cells u.ts.length).toArray)]) Tryz.func22 rfl Tryz.ntmps22 rfl rfl ?_
 intro Q hret hnorm hP a A
 refine wsk fun K1 hK1 => wrl (s_new (vs := [.int .i64 t.d.k, .int .i64 t.d.n, .bool t.d.y.q.b1, .slice t.d.y.o1 t.d.y.q.t1.length t.d.y.c1, .slice t.d.y.o2 t.d.y.q.q1.length t.d.y.c2, .bool t.d.y.q.b2, .slice t.d.y.o3 t.d.y.q.t2.length t.d.y.c3, .slice t.d.y.o4 t.d.y.q.q2.length t.d.y.c4, .string t.d.s, .slice t.d.ro t.d.rl.length t.d.rc, .slice t.d.lo t.ts.length t.d.lc]) (t := 30) A M rfl rfl rfl pg (does_box rfl rfl) (by decide) ?_)
 intro g2 w3 M a A
 refine s_new (vs := [.int .i64 u.d.k, .int .i64 u.d.n, .bool u.d.y.q.b1, .slice u.d.y.o1 u.d.y.q.t1.length u.d.y.c1, .slice u.d.y.o2 u.d.y.q.q1.length u.d.y.c2, .bool u.d.y.q.b2, .slice u.d.y.o3 u.d.y.q.t2.length u.d.y.c3, .slice u.d.y.o4 u.d.y.q.q2.length u.d.y.c4, .string u.d.s, .slice u.d.ro u.d.rl.length u.d.rc, .slice u.d.lo u.ts.length u.d.lc]) (t := 30) A M rfl rfl rfl pg (does_box rfl rfl) (by decide) ?_
 intro g4 w5 M a A
 refine sda A λa A↦?_
 refine seq_end (hK1 _ _ (wsk fun K6 hK6 => wsk fun K7 hK7 => wrl (sdo A (m_loadS M EqC_isS_30 rfl 1 rfl (cs := [.int .i64 t.d.k, .int .i64 t.d.n, .bool t.d.y.q.b1, .slice t.d.y.o1 t.d.y.q.t1.length t.d.y.c1, .slice t.d.y.o2 t.d.y.q.q1.length t.d.y.c2, .bool t.d.y.q.b2, .slice t.d.y.o3 t.d.y.q.t2.length t.d.y.c3, .slice t.d.y.o4 t.d.y.q.q2.length t.d.y.c4, .string t.d.s, .slice t.d.ro t.d.rl.length t.d.rc, .slice t.d.lo t.ts.length t.d.lc]) rfl rfl) λa A↦?_)))
 refine sdo A (m_loadS M EqC_isS_30 rfl 0 rfl (cs := [.int .i64 u.d.k, .int .i64 u.d.n, .bool u.d.y.q.b1, .slice u.d.y.o1 u.d.y.q.t1.length u.d.y.c1, .slice u.d.y.o2 u.d.y.q.q1.length u.d.y.c2, .bool u.d.y.q.b2, .slice u.d.y.o3 u.d.y.q.t2.length u.d.y.c3, .slice u.d.y.o4 u.d.y.q.q2.length u.d.y.c4, .string u.d.s, .slice u.d.ro u.d.rl.length u.d.rc, .slice u.d.lo u.ts.length u.d.lc]) rfl rfl) λa A↦?_
 rcases tf ((soundT shapeT t.tr && soundT shapeT u.tr)) with hb8 | hb8
 ·
  refine gcl A M (ef rfl rfl) ((hb8 ▸ both_any (Dt.keep M.bel _ ht) (Dt.keep M.bel _ hu) (hT.below M.bel))) fun w10 hb9 M a A => ?_
  refine sdo (v := .bool false) A (does_un rfl un_not) λa A↦?_
  refine seq_end (hK7 _ _ (wp_cond_false (A.ev rfl) ?_))
  refine wp_skip (hK6 _ _ (wsk fun K11 hK11 => wrl (sdo A (m_loadS M EqC_isS_30 rfl 1 rfl (cs := [.int .i64 t.d.k, .int .i64 t.d.n, .bool t.d.y.q.b1, .slice t.d.y.o1 t.d.y.q.t1.length t.d.y.c1, .slice t.d.y.o2 t.d.y.q.q1.length t.d.y.c2, .bool t.d.y.q.b2, .slice t.d.y.o3 t.d.y.q.t2.length t.d.y.c3, .slice t.d.y.o4 t.d.y.q.q2.length t.d.y.c4, .string t.d.s, .slice t.d.ro t.d.rl.length t.d.rc, .slice t.d.lo t.ts.length t.d.lc]) rfl rfl) λa A↦?_)))
  refine sdo A (m_loadS M EqC_isS_30 rfl 0 rfl (cs := [.int .i64 u.d.k, .int .i64 u.d.n, .bool u.d.y.q.b1, .slice u.d.y.o1 u.d.y.q.t1.length u.d.y.c1, .slice u.d.y.o2 u.d.y.q.q1.length u.d.y.c2, .bool u.d.y.q.b2, .slice u.d.y.o3 u.d.y.q.t2.length u.d.y.c3, .slice u.d.y.o4 u.d.y.q.q2.length u.d.y.c4, .string u.d.s, .slice u.d.ro u.d.rl.length u.d.rc, .slice u.d.lo u.ts.length u.d.lc]) rfl rfl) λa A↦?_
  refine gcl A M (ef rfl rfl) (orders_all (t.tr.bulk + 1) (Nat.lt_succ_self _) (Dt.keep M.bel _ ht) (Dt.keep M.bel _ hu) (good_of ht (both_ok hb8).1) (good_of hu (both_ok hb8).2)) fun w13 hb12 M a A => ?_
  refine sda A λa A↦?_
  refine seq_end (hK11 _ _ (wp_ret (hret _ _ (en1 A rfl (res_tmp rfl) ?_))))
  exact ⟨by unfold cmpT; rw [if_pos (both_ok hb8)], M.bel⟩
 ·
  refine gcl A M (ef rfl rfl) ((hb8 ▸ both_any (Dt.keep M.bel _ ht) (Dt.keep M.bel _ hu) (hT.below M.bel))) fun w15 hb14 M a A => ?_
  refine sdo (v := .bool true) A (does_un rfl un_not) λa A↦?_
  refine seq_end (hK7 _ _ (wp_cond_true (A.ev rfl) ?_))
  refine wsk fun K16 hK16 => wrl (sda A λa A↦?_)
  refine seq_end (hK16 _ _ (wp_ret (hret _ _ (en1 A rfl (res_tmp rfl) ?_))))
  exact ⟨by unfold cmpT; rw [if_neg (both_no hb8)], M.bel⟩
section
variable {α : Type} {lt : α → α → Bool}
/-- What is in order is sorted. -/
theorem isort_same : ∀ {l : List α}, Up lt l → isort lt l = l
  | [], _ => rfl
  | x :: xs, h => by
    show mrg lt [x] (isort lt xs) = x :: xs
    have h2 := List.pairwise_cons.1 h
    rw [isort_same h2.2]
    have := mrg_split (lt := lt) [x] [] [] xs (fun z hz y hy => by rw [List.mem_singleton.1 hz]; exact h2.1 y hy) (fun y hy => by cases hy)
    rw [List.append_nil, List.nil_append, mrg_r, mrg_l] at this
    exact this
theorem isort_twice (H : Swo lt) (l : List α) : isort lt (isort lt l) = isort lt l := isort_same (isort_up H l)
theorem isort_count (p : α → Bool) (l : List α) : (isort lt l).countP p = l.countP p := (isort_perm l).countP_eq p
/-- Of two neighbours the second does not lie ahead. -/
theorem up_next {l : List α} {i : Nat} {x y : α} (h : Up lt l) (hx : l[i]? = some x) (hy : l[i + 1]? = some y) : lt y x = false := by
  obtain ⟨h1, rfl⟩ := List.getElem?_eq_some_iff.1 hx
  obtain ⟨h2, rfl⟩ := List.getElem?_eq_some_iff.1 hy
  exact List.pairwise_iff_getElem.1 h i (i + 1) h1 h2 (Nat.lt_succ_self i)
end
theorem LiZ_is1_49 : Is1 Tryz.prog 49 := ⟨⟨_, Tryz.underlying49, rfl⟩, by kernel_rfl⟩
theorem LiZ_isS_30 : IsS Tryz.prog 30 11 := ⟨⟨_, Tryz.underlying30⟩, by kernel_rfl⟩
theorem self_any {w : World} {t : Dt} : Calls Tryz.prog 39 #[.agg (t.d.cells t.ts.length).toArray] w fun e w' => e = .returned (.agg (t.d.cells t.ts.length).toArray) ∧ Below w.heap.size w w' := by
 have hM : Mg w w ([]) := Mg.start w
 refine walk_of (l := [(0, .agg (t.d.cells t.ts.length).toArray)]) Tryz.func39 rfl Tryz.ntmps39 rfl rfl ?_
 intro Q hret hnorm hP a hA
 refine wp_seq_k (fun K1 hK1 => ?_)
 refine wp_region_lit ?_
 refine s_new (vs := [.int .i64 t.d.k, .int .i64 t.d.n, .bool t.d.y.q.b1, .slice t.d.y.o1 t.d.y.q.t1.length t.d.y.c1, .slice t.d.y.o2 t.d.y.q.q1.length t.d.y.c2, .bool t.d.y.q.b2, .slice t.d.y.o3 t.d.y.q.t2.length t.d.y.c3, .slice t.d.y.o4 t.d.y.q.q2.length t.d.y.c4, .string t.d.s, .slice t.d.ro t.d.rl.length t.d.rc, .slice t.d.lo t.ts.length t.d.lc]) (t := 30) hA hM rfl rfl rfl (fun g => .pointer (some ⟨g, 0, none⟩)) (does_box rfl rfl) (by decide) ?_
 intro g2 w3 hM a hA
 refine s_new (vs := [.int .i64 0, .int .i64 0, .bool false, .slice none 0 0, .slice none 0 0, .bool false, .slice none 0 0, .slice none 0 0, .string (⟨#[]⟩), .slice none 0 0, .slice none 0 0]) (t := 30) hA hM rfl rfl rfl (fun g => .pointer (some ⟨g, 0, none⟩)) (does_alloc (z := .agg #[.int .i64 0, .int .i64 0, .bool false, .slice none 0 0, .slice none 0 0, .bool false, .slice none 0 0, .slice none 0 0, .string (⟨#[]⟩), .slice none 0 0, .slice none 0 0]) (by kernel_rfl) rfl) (by decide) ?_
 intro g4 w5 hM a hA
 refine seq_end ?_
 refine hK1 _ _ ?_
 refine wp_seq_k (fun K6 hK6 => ?_)
 refine wp_region_lit ?_
 refine seq_do hA rfl rfl rfl (m_loadS hM LiZ_isS_30 rfl 1 rfl (cs := [.int .i64 t.d.k, .int .i64 t.d.n, .bool t.d.y.q.b1, .slice t.d.y.o1 t.d.y.q.t1.length t.d.y.c1, .slice t.d.y.o2 t.d.y.q.q1.length t.d.y.c2, .bool t.d.y.q.b2, .slice t.d.y.o3 t.d.y.q.t2.length t.d.y.c3, .slice t.d.y.o4 t.d.y.q.q2.length t.d.y.c4, .string t.d.s, .slice t.d.ro t.d.rl.length t.d.rc, .slice t.d.lo t.ts.length t.d.lc]) rfl rfl) ?_
 intro a hA
 refine s_store (us := [.int .i64 t.d.k, .int .i64 t.d.n, .bool t.d.y.q.b1, .slice t.d.y.o1 t.d.y.q.t1.length t.d.y.c1, .slice t.d.y.o2 t.d.y.q.q1.length t.d.y.c2, .bool t.d.y.q.b2, .slice t.d.y.o3 t.d.y.q.t2.length t.d.y.c3, .slice t.d.y.o4 t.d.y.q.q2.length t.d.y.c4, .string t.d.s, .slice t.d.ro t.d.rl.length t.d.rc, .slice t.d.lo t.ts.length t.d.lc]) (L' := (.obj g4 (.cells (t.d.cells t.ts.length).toArray 30) :: .obj g2 (.cells (t.d.cells t.ts.length).toArray 30) :: [])) hA hM rfl rfl (m_store rfl rfl rfl (by kernel_rfl) hM 0 rfl rfl rfl) 0 rfl rfl rfl ?_
 intro w7 hM
 refine seq_end ?_
 refine hK6 _ _ ?_
 refine wp_ret ?_
 refine hret _ _ ?_
 refine ends (v := .agg (t.d.cells t.ts.length).toArray) hA rfl (.cons (res_cellS hM LiZ_isS_30 rfl 0 rfl (cs := [.int .i64 t.d.k, .int .i64 t.d.n, .bool t.d.y.q.b1, .slice t.d.y.o1 t.d.y.q.t1.length t.d.y.c1, .slice t.d.y.o2 t.d.y.q.q1.length t.d.y.c2, .bool t.d.y.q.b2, .slice t.d.y.o3 t.d.y.q.t2.length t.d.y.c3, .slice t.d.y.o4 t.d.y.q.q2.length t.d.y.c4, .string t.d.s, .slice t.d.ro t.d.rl.length t.d.rc, .slice t.d.lo t.ts.length t.d.lc]) rfl rfl) .nil) rfl ?_
 exact ⟨rfl, hM.bel⟩
def ordC (t u : Dt) : Int := ordT t.tr u.tr
def ltO (x y : Tr) : Bool := decide (ordT x y < 0)
theorem ltO_swo : Swo ltO := by
  constructor
  · intro x y h
    have h1 := of_decide_eq_true h
    have h2 := ordT_turn x y
    exact decide_eq_false (by omega)
  · intro x y z h1 h2
    have h3 := of_decide_eq_false h1
    have h4 := of_decide_eq_false h2
    have h5 := J3_T z y x
    have h6 := ordT_turn z y
    have h7 := ordT_turn y x
    have h8 := ordT_turn z x
    refine decide_eq_false ?_
    unfold J3 at h5
    omega
theorem ordC_swo : Swo (ltC ordC) := ⟨fun x y h => ltO_swo.asy x.tr y.tr h, fun x y z h1 h2 => ltO_swo.neg x.tr y.tr z.tr h1 h2⟩
theorem isort_ord (ys : List Dt) : (isort (ltC ordC) ys).map Dt.tr = isort ltO (ys.map Dt.tr) := isort_map (f := Dt.tr) (lt := ltC ordC) (lt' := ltO) (fun x y => rfl) ys
theorem sb2_any {w : World} {t u : Dt} {gk : Nat} (hG : w.heap[gk]? = some (.cells [.func (.func 39) #[] #[]].toArray 49)) (ht : t.rd w) (hu : u.rd w) (hT : Tabs8 w) : Calls Tryz.prog 61 #[.agg (t.d.cells t.ts.length).toArray, .agg (u.d.cells u.ts.length).toArray, .pointer (some ⟨gk, 0, none⟩)] w fun e w' => e = .returned (.int .i64 (cmpT t.tr u.tr)) ∧ Below w.heap.size w w' := by
 have hM : Mg w w ([]) := Mg.start w
 refine walk_of (l := [(0, .agg (t.d.cells t.ts.length).toArray), (1, .agg (u.d.cells u.ts.length).toArray), (2, .pointer (some ⟨gk, 0, none⟩))]) Tryz.func61 rfl Tryz.ntmps61 rfl rfl ?_
 intro Q hret hnorm hP a hA
 refine wp_seq_k (fun K1 hK1 => ?_)
 refine wp_region_lit ?_
 refine s_new (vs := [.int .i64 t.d.k, .int .i64 t.d.n, .bool t.d.y.q.b1, .slice t.d.y.o1 t.d.y.q.t1.length t.d.y.c1, .slice t.d.y.o2 t.d.y.q.q1.length t.d.y.c2, .bool t.d.y.q.b2, .slice t.d.y.o3 t.d.y.q.t2.length t.d.y.c3, .slice t.d.y.o4 t.d.y.q.q2.length t.d.y.c4, .string t.d.s, .slice t.d.ro t.d.rl.length t.d.rc, .slice t.d.lo t.ts.length t.d.lc]) (t := 30) hA hM rfl rfl rfl (fun g => .pointer (some ⟨g, 0, none⟩)) (does_box rfl rfl) (by decide) ?_
 intro g2 w3 hM a hA
 refine s_new (vs := [.int .i64 u.d.k, .int .i64 u.d.n, .bool u.d.y.q.b1, .slice u.d.y.o1 u.d.y.q.t1.length u.d.y.c1, .slice u.d.y.o2 u.d.y.q.q1.length u.d.y.c2, .bool u.d.y.q.b2, .slice u.d.y.o3 u.d.y.q.t2.length u.d.y.c3, .slice u.d.y.o4 u.d.y.q.q2.length u.d.y.c4, .string u.d.s, .slice u.d.ro u.d.rl.length u.d.rc, .slice u.d.lo u.ts.length u.d.lc]) (t := 30) hA hM rfl rfl rfl (fun g => .pointer (some ⟨g, 0, none⟩)) (does_box rfl rfl) (by decide) ?_
 intro g4 w5 hM a hA
 refine seq_do hA rfl rfl rfl (does_assign rfl) ?_
 intro a hA
 refine seq_end ?_
 refine hK1 _ _ ?_
 refine wp_seq_k (fun K6 hK6 => ?_)
 refine wp_draw (S := fun w1 => Mg w w1 (.obj g4 (.cells (u.d.cells u.ts.length).toArray 30) :: .obj g2 (.cells (t.d.cells t.ts.length).toArray 30) :: [])) (by kernel_rfl) ?_
 replace hM := hM.drew
 refine any_tk hA 0 rfl rfl rfl rfl hP (hM.sub (.cons_cons _ (.cons_cons _ (List.nil_sublist _)))) (fun w1 hM => m_load1F hM hG LiZ_is1_49 rfl rfl) ?_
 intro a hA
 refine any_tk hA 1 rfl rfl rfl rfl hP (hM.sub (.cons_cons _ (.cons_cons _ (List.nil_sublist _)))) (fun w1 hM => m_loadS hM LiZ_isS_30 rfl 1 rfl (cs := [.int .i64 t.d.k, .int .i64 t.d.n, .bool t.d.y.q.b1, .slice t.d.y.o1 t.d.y.q.t1.length t.d.y.c1, .slice t.d.y.o2 t.d.y.q.q1.length t.d.y.c2, .bool t.d.y.q.b2, .slice t.d.y.o3 t.d.y.q.t2.length t.d.y.c3, .slice t.d.y.o4 t.d.y.q.q2.length t.d.y.c4, .string t.d.s, .slice t.d.ro t.d.rl.length t.d.rc, .slice t.d.lo t.ts.length t.d.lc]) rfl rfl) ?_
 intro a hA
 refine any_tk hA 3 rfl rfl rfl rfl hP (hM.sub (.cons_cons _ (.cons_cons _ (List.nil_sublist _)))) (fun w1 hM => m_load1F hM hG LiZ_is1_49 rfl rfl) ?_
 intro a hA
 refine any_tk hA 4 rfl rfl rfl rfl hP (hM.sub (.cons_cons _ (.cons_cons _ (List.nil_sublist _)))) (fun w1 hM => m_loadS hM LiZ_isS_30 rfl 0 rfl (cs := [.int .i64 u.d.k, .int .i64 u.d.n, .bool u.d.y.q.b1, .slice u.d.y.o1 u.d.y.q.t1.length u.d.y.c1, .slice u.d.y.o2 u.d.y.q.q1.length u.d.y.c2, .bool u.d.y.q.b2, .slice u.d.y.o3 u.d.y.q.t2.length u.d.y.c3, .slice u.d.y.o4 u.d.y.q.q2.length u.d.y.c4, .string u.d.s, .slice u.d.ro u.d.rl.length u.d.rc, .slice u.d.lo u.ts.length u.d.lc]) rfl rfl) ?_
 intro a hA
 refine any_one (by kernel_rfl) (op_call hA 2 rfl rfl rfl rfl (enters_func rfl rfl (fun w => by kernel_rfl)) (self_any (t := t)) ?_)
 rintro _ w8 ⟨rfl, hb7⟩
 replace hM := hM.call hb7
 refine ⟨_, rfl, (hM.sub (.cons_cons _ (.cons_cons _ (List.nil_sublist _)))), ?_⟩
 intro a hA
 refine any_one (by kernel_rfl) (op_call hA 5 rfl rfl rfl rfl (enters_func rfl rfl (fun w => by kernel_rfl)) (self_any (t := u)) ?_)
 rintro _ w10 ⟨rfl, hb9⟩
 replace hM := hM.call hb9
 refine ⟨_, rfl, (hM.sub (.cons_cons _ (.cons_cons _ (List.nil_sublist _)))), ?_⟩
 intro a hA
 refine any_one (by kernel_rfl) (op_call hA 6 rfl rfl rfl rfl (enters_func rfl rfl (fun w => by kernel_rfl)) (cmp_any (Dt.keep hM.bel _ ht) (Dt.keep hM.bel _ hu) (hT.below hM.bel)) ?_)
 rintro _ w12 ⟨rfl, hb11⟩
 replace hM := hM.call hb11
 refine ⟨_, rfl, (hM.sub (.cons_cons _ (.cons_cons _ (List.nil_sublist _)))), ?_⟩
 intro a hA
 refine any_tk hA 7 rfl rfl rfl rfl hP (hM.sub (.cons_cons _ (.cons_cons _ (List.nil_sublist _)))) (fun w1 hM => does_assign rfl) ?_
 intro a hA
 refine any_end (by kernel_rfl) ?_
 refine hK6 _ _ ?_
 refine wp_ret ?_
 refine hret _ _ ?_
 refine ends (v := .int .i64 (cmpT t.tr u.tr)) hA rfl (.cons (res_tmp rfl) .nil) rfl ?_
 exact ⟨rfl, hM.bel⟩
theorem cmps_ord {w0 : World} {T : List Ck} {ts : List Dt} {gk : Nat} (hPc : ∀ t ∈ ts, t.rd w0 ∧ soundT shapeT t.tr = true) (hT : Tabs8 w0) : Cmps Tryz.prog 61 [.pointer (some ⟨gk, 0, none⟩)] w0 (.obj gk (.cells #[.func (.func 39) #[] #[]] 49) :: T) ts ordC := by
  refine ⟨fun us w => by kernel_rfl, fun t u w ht hu hM => ?_⟩
  have hb := hM.bel
  unfold ordC
  rw [← cmpT_ok (hPc t ht).2 (hPc u hu).2]
  exact sb2_any (hM.obj 0 rfl) (Dt.keep hb _ (hPc t ht).1) (Dt.keep hb _ (hPc u hu).1) (hT.below hb)
theorem listOf_ord {w : World} {so : Option Addr} {ca : Nat} {ys : List Dt} (hR : Rt w so (isort (ltC ordC) ys)) (hD : ∀ t ∈ isort (ltC ordC) ys, t.rd w) (hb : Tr.bulks ((isort (ltC ordC) ys).map Dt.tr) ≤ 400000000) : Calls Tryz.prog 27 #[.slice so ys.length ca] w fun e w' => ∃ t2 : Dt, e = .returned (.agg (t2.d.cells t2.ts.length).toArray) ∧ (t2.rd w' ∧ t2.at_ (w.heap.size ≤ ·) ∧ t2.tr = linkT ((isort (ltC ordC) ys).map Dt.tr) nilT) ∧ Below w.heap.size w w' := by
  have := listOf_any (ca := ca) hR hD hb
  rwa [isort_len] at this

theorem deepL_mono {ts : List Tr} (h : ∀ t ∈ ts, ∀ d e : Int, d ≤ e → deepT e t = true → deepT d t = true) {d e : Int} (hd : d ≤ e) (pr : Bool) : ∀ i, deepL e pr i ts = true → deepL d pr i ts = true := by
  induction ts with
  | nil => intro i _; rfl
  | cons t ts ih =>
    intro i h2
    rw [deepL, Bool.and_eq_true] at h2 ⊢
    refine ⟨h t (List.mem_cons_self ..) _ _ ?_ h2.1, ih (fun u hu => h u (List.mem_cons_of_mem _ hu)) (i + 1) h2.2⟩
    split <;> omega
theorem nodes_in {x : Tr} : ∀ {xs : List Tr}, x ∈ xs → nodesT x ≤ nodesL xs
  | y :: ys, h => by
    rw [nodesL]
    rcases List.mem_cons.1 h with rfl | h
    · omega
    · have := nodes_in h; omega
theorem deep_mono : ∀ t : Tr, ∀ d e : Int, d ≤ e → deepT e t = true → deepT d t = true := by
  refine Tr.indT fun k n q s rl ts ih d e hd h => ?_
  rw [deepT, Bool.and_eq_true] at h ⊢
  exact ⟨decide_eq_true (by have := of_decide_eq_true h.1; omega), deepL_mono ih hd _ _ h.2⟩
theorem item_sound {t : Tr} {xs : List Tr} (h : asList t = some xs) (hs : soundT shapeT t = true) : ∀ x ∈ xs, soundT shapeT x = true := fun x hx => by
  rw [asList_some h, sound_link] at hs
  have := nodes_in hx
  exact (sound_char x).2 ⟨deep_mono x 1 2 (by decide) (List.all_eq_true.1 hs.1.1 x hx), by have := hs.2.1; omega, List.all_eq_true.1 hs.2.2.1 x hx⟩
theorem sortByO_any {w0 w : World} {so9 : Option Addr} {c9 : Nat} {zs : List Dt} {T : List Ck} (hl : zs.length ≤ 1000000000) (hPc : ∀ t ∈ zs, t.rd w0 ∧ soundT shapeT t.tr = true) (hT : Tabs8 w0) (hM0 : Mg w0 w (.row 30 11 (.slice so9 zs.length c9) zs.length (cellsOf zs) :: T)) : Calls Tryz.prog 38 #[.slice so9 zs.length c9, .func (.func 39) #[] #[]] w fun e w' => e = .returned (.tuple #[]) ∧ Mg w0 w' (.row 30 11 (.slice so9 zs.length c9) zs.length (cellsOf (isort (ltC ordC) zs)) :: T) := by
 have hM : Mg w0 w (.row 30 11 (.slice so9 zs.length c9) zs.length (cellsOf zs) :: T) := hM0
 refine walk_of (l := [(0, .slice so9 zs.length c9), (1, .func (.func 39) #[] #[])]) Tryz.func38 rfl Tryz.ntmps38 rfl rfl ?_
 intro Q hret hnorm hP a hA
 refine wp_seq_k (fun K1 hK1 => ?_)
 refine wp_region_lit ?_
 refine s_new (vs := [.func (.func 39) #[] #[]]) (t := 49) hA hM rfl rfl rfl (fun g => .pointer (some ⟨g, 0, none⟩)) (does_box rfl rfl) (by decide) ?_
 intro g2 w3 hM a hA
 refine seq_end ?_
 refine hK1 _ _ ?_
 refine wp_region_lit ?_
 refine seq_do hA rfl rfl rfl (does_move rfl) ?_
 intro a hA
 refine seq_do (v := .func (.func 61) #[] [.pointer (some ⟨g2, 0, none⟩)].toArray) hA rfl rfl rfl (does_makeFunc rfl) ?_
 intro a hA
 refine seq_call hA rfl rfl rfl (enters_func rfl rfl (fun w => by kernel_rfl)) (sortS_any (by omega) (cmps_ord hPc hT) (fun t ht => ht) ordC_swo (hM.perm (List.Perm.swap _ _ _))) ?_
 rintro _ w5 ⟨rfl, hM4⟩
 replace hM : Mg w0 w5 (.row 30 11 (.slice so9 zs.length c9) zs.length (cellsOf (isort (ltC ordC) zs)) :: .obj g2 (.cells #[.func (.func 39) #[] #[]] 49) :: T) := hM4
 refine ⟨_, rfl, ?_⟩
 intro a hA
 refine seq_end ?_
 refine hnorm _ _ ?_
 refine ends (v := .tuple #[]) hA rfl .nil rfl ?_
 exact ⟨rfl, hM.sub (.cons_cons _ (.cons _ (List.Sublist.refl _)))⟩
theorem sort_any {w : World} {t : Dt} (ht : t.rd w) (hb : t.tr.bulk ≤ 300000000) (hT : Tabs8 w) (hs : soundT shapeT t.tr = true) {xs : List Tr} (hx : asList t.tr = some xs) : Calls Tryz.prog 14 #[.agg (t.d.cells t.ts.length).toArray] w fun e w' => ∃ (t2 : Dt) (k : Int), e = .returned (.tuple #[.agg (t2.d.cells t2.ts.length).toArray, .int .i64 k]) ∧ (t2.rd w' ∧ t2.at_ (w.heap.size ≤ ·) ∧ (t2.tr, k) = (linkT (isort ltO xs) nilT, 0)) ∧ Below w.heap.size w w' := by
 have hM : Mg w w ([]) := Mg.start w
 refine walk_of (l := [(0, .agg (t.d.cells t.ts.length).toArray)]) Tryz.func14 rfl Tryz.ntmps14 rfl rfl ?_
 intro Q hret hnorm hP a hA
 refine wp_seq_k (fun K1 hK1 => ?_)
 refine wp_region_lit ?_
 refine s_new (vs := [.int .i64 t.d.k, .int .i64 t.d.n, .bool t.d.y.q.b1, .slice t.d.y.o1 t.d.y.q.t1.length t.d.y.c1, .slice t.d.y.o2 t.d.y.q.q1.length t.d.y.c2, .bool t.d.y.q.b2, .slice t.d.y.o3 t.d.y.q.t2.length t.d.y.c3, .slice t.d.y.o4 t.d.y.q.q2.length t.d.y.c4, .string t.d.s, .slice t.d.ro t.d.rl.length t.d.rc, .slice t.d.lo t.ts.length t.d.lc]) (t := 30) hA hM rfl rfl rfl (fun g => .pointer (some ⟨g, 0, none⟩)) (does_box rfl rfl) (by decide) ?_
 intro g2 w3 hM a hA
 refine s_new (vs := [.int .i64 0, .int .i64 0, .bool false, .slice none 0 0, .slice none 0 0, .bool false, .slice none 0 0, .slice none 0 0, .string (⟨#[]⟩), .slice none 0 0, .slice none 0 0]) (t := 30) hA hM rfl rfl rfl (fun g => .pointer (some ⟨g, 0, none⟩)) (does_alloc (z := .agg #[.int .i64 0, .int .i64 0, .bool false, .slice none 0 0, .slice none 0 0, .bool false, .slice none 0 0, .slice none 0 0, .string (⟨#[]⟩), .slice none 0 0, .slice none 0 0]) (by kernel_rfl) rfl) (by decide) ?_
 intro g4 w5 hM a hA
 refine seq_do hA rfl rfl rfl (does_assign rfl) ?_
 intro a hA
 refine seq_end ?_
 refine hK1 _ _ ?_
 refine wp_seq_k (fun K6 hK6 => ?_)
 refine wp_region_lit ?_
 refine seq_do hA rfl rfl rfl (m_loadS hM LiZ_isS_30 rfl 1 rfl (cs := [.int .i64 t.d.k, .int .i64 t.d.n, .bool t.d.y.q.b1, .slice t.d.y.o1 t.d.y.q.t1.length t.d.y.c1, .slice t.d.y.o2 t.d.y.q.q1.length t.d.y.c2, .bool t.d.y.q.b2, .slice t.d.y.o3 t.d.y.q.t2.length t.d.y.c3, .slice t.d.y.o4 t.d.y.q.q2.length t.d.y.c4, .string t.d.s, .slice t.d.ro t.d.rl.length t.d.rc, .slice t.d.lo t.ts.length t.d.lc]) rfl rfl) ?_
 intro a hA
 refine seq_call hA rfl rfl rfl (enters_func rfl rfl (fun w => by kernel_rfl)) (items_some hM.bel ht (by omega) (hT.below hM.bel) hs (by rw [hx]; rfl)) ?_
 rintro _ w7 ⟨so7, ca7, ys, rfl, ⟨hy1, hy2, hy3⟩, hM7⟩
 have hyb := asList_bulk hx
 have hye : ys.map Dt.tr = xs := by rw [hx] at hy1; exact (Option.some.inj hy1).symm
 have hyk : ∀ z ∈ ys, z.rd _ ∧ soundT shapeT z.tr = true := fun z hz => ⟨hy2 z hz, item_sound hx hs _ (hye ▸ List.mem_map_of_mem hz)⟩
 replace hM : Mg w w7 (.row 30 11 (.slice so7 ys.length ca7) ys.length (cellsOf ys) :: .obj g4 (.cells #[.int .i64 0, .int .i64 0, .bool false, .slice none 0 0, .slice none 0 0, .bool false, .slice none 0 0, .slice none 0 0, .string (⟨#[]⟩), .slice none 0 0, .slice none 0 0] 30) :: .obj g2 (.cells (t.d.cells t.ts.length).toArray 30) :: []) := (hM.both hM7 (noBld_cons (by simp) (noBld_cons (by simp) (noBld_quiet quietL_nil))) (noBld_cons (by simp) (noBld_quiet quietL_nil)))
 refine ⟨_, rfl, ?_⟩
 intro a hA
 refine seq_do hA rfl rfl rfl (does_move rfl) ?_
 intro a hA
 refine seq_do (v := .slice so7 ys.length ca7) hA rfl rfl rfl (does_extract (vs := [.slice so7 ys.length ca7, .int .i64 0]) rfl rfl) ?_
 intro a hA
 refine seq_do (v := .int .i64 0) hA rfl rfl rfl (does_extract (vs := [.slice so7 ys.length ca7, .int .i64 0]) rfl rfl) ?_
 intro a hA
 refine seq_do hA rfl rfl rfl (does_assign rfl) ?_
 intro a hA
 refine seq_do hA rfl rfl rfl (does_assign rfl) ?_
 intro a hA
 refine seq_end ?_
 refine hK6 _ _ ?_
 refine wp_seq_k (fun K8 hK8 => ?_)
 refine wp_seq_k (fun K9 hK9 => ?_)
 refine wp_region_lit ?_
 refine seq_do hA rfl rfl rfl (does_move rfl) ?_
 intro a hA
 refine seq_do (v := .bool false) hA rfl rfl rfl (does_bin rfl rfl (fun w => by kernel_rfl)) ?_
 intro a hA
 refine seq_end ?_
 refine hK9 _ _ ?_
 refine wp_cond_false (hA.ev rfl) ?_
 refine wp_skip ?_
 refine hK8 _ _ ?_
 refine wp_seq_k (fun K10 hK10 => ?_)
 refine wp_region_lit ?_
 refine seq_do hA rfl rfl rfl (does_move rfl) ?_
 intro a hA
 refine seq_call hA rfl rfl rfl (enters_func rfl rfl (fun w => by kernel_rfl)) (sortByO_any (by omega) hyk hT hM) ?_
 rintro _ w11 ⟨rfl, hM8⟩
 replace hM : Mg w w11 (.row 30 11 (.slice so7 ys.length ca7) ys.length (cellsOf (isort (ltC ordC) ys)) :: .obj g4 (.cells #[.int .i64 0, .int .i64 0, .bool false, .slice none 0 0, .slice none 0 0, .bool false, .slice none 0 0, .slice none 0 0, .string (⟨#[]⟩), .slice none 0 0, .slice none 0 0] 30) :: .obj g2 (.cells (t.d.cells t.ts.length).toArray 30) :: []) := hM8
 refine ⟨_, rfl, ?_⟩
 intro a hA
 refine seq_end ?_
 refine hK10 _ _ ?_
 refine wp_seq_k (fun K12 hK12 => ?_)
 refine wp_region_lit ?_
 refine seq_do hA rfl rfl rfl (does_move rfl) ?_
 intro a hA
 have hlt13 := (Ck.lt (hM.has 1 rfl) g4 rfl).2
 have hlt14 := (Ck.lt (hM.has 2 rfl) g2 rfl).2
 have hzt2 := hM.bel.size
 refine seq_call hA rfl rfl rfl (enters_func rfl rfl (fun w => by kernel_rfl)) (listOf_ord (rt_own (hM.has 0 rfl)).1 (fun t ht => Dt.keep hM.bel _ (hy2 t ((isort_perm _).mem_iff.1 ht))) (by rw [isort_ord, bulks_perm (isort_perm _), hye]; omega)) ?_
 rintro _ w16 ⟨t2, rfl, ⟨hrt2, hat2, htt2⟩, hb15⟩
 replace hM := hM.call hb15
 refine ⟨_, rfl, ?_⟩
 intro a hA
 refine s_storeD (us := [.int .i64 t2.d.k, .int .i64 t2.d.n, .bool t2.d.y.q.b1, .slice t2.d.y.o1 t2.d.y.q.t1.length t2.d.y.c1, .slice t2.d.y.o2 t2.d.y.q.q1.length t2.d.y.c2, .bool t2.d.y.q.b2, .slice t2.d.y.o3 t2.d.y.q.t2.length t2.d.y.c3, .slice t2.d.y.o4 t2.d.y.q.q2.length t2.d.y.c4, .string t2.d.s, .slice t2.d.ro t2.d.rl.length t2.d.rc, .slice t2.d.lo t2.ts.length t2.d.lc]) (L' := (.row 30 11 (.slice so7 ys.length ca7) ys.length (cellsOf (isort (ltC ordC) ys)) :: .obj g4 (.cells (t2.d.cells t2.ts.length).toArray 30) :: .obj g2 (.cells (t.d.cells t.ts.length).toArray 30) :: [])) hA hM rfl rfl (m_store rfl rfl rfl (by kernel_rfl) hM 1 rfl rfl rfl) 1 rfl rfl rfl ?_
 intro w17 hM hK18
 replace hrt2 := Dt.kept hK18 _ hrt2 (Dt.at_mono (fun b hb => by rintro rfl; omega) _ hat2)
 refine seq_do hA rfl rfl rfl (does_assign rfl) ?_
 intro a hA
 refine seq_end ?_
 refine hK12 _ _ ?_
 refine wp_ret ?_
 refine hret _ _ ?_
 refine ends (v := .tuple #[.agg (t2.d.cells t2.ts.length).toArray, .int .i64 0]) hA rfl (.cons (res_cellS hM LiZ_isS_30 rfl 1 rfl (cs := [.int .i64 t2.d.k, .int .i64 t2.d.n, .bool t2.d.y.q.b1, .slice t2.d.y.o1 t2.d.y.q.t1.length t2.d.y.c1, .slice t2.d.y.o2 t2.d.y.q.q1.length t2.d.y.c2, .bool t2.d.y.q.b2, .slice t2.d.y.o3 t2.d.y.q.t2.length t2.d.y.c3, .slice t2.d.y.o4 t2.d.y.q.q2.length t2.d.y.c4, .string t2.d.s, .slice t2.d.ro t2.d.rl.length t2.d.rc, .slice t2.d.lo t2.ts.length t2.d.lc]) rfl rfl) (.cons (res_tmp rfl) .nil)) rfl ?_
 exact ⟨t2, 0, rfl, ⟨hrt2, Dt.at_mono (fun b hb => Nat.le_trans hzt2 hb) _ hat2, by rw [htt2, isort_ord, hye]⟩, hM.bel⟩
end Go.Proofs.YtofbejppkldhnaaGreatDoor.G
namespace Go.Proofs.YtofbejppkldhnaaGreatDoor
open Go.RowKit
set_option linter.unusedVariables false
set_option linter.unusedSimpArgs false
set_option maxRecDepth 100000
theorem EqO_fld_26_0 : FieldAt Tryz.prog 26 0 0 := ⟨_, _, Tryz.underlying26, rfl, rfl, by kernel_rfl⟩
theorem EqO_fld_26_1 : FieldAt Tryz.prog 26 1 3 := ⟨_, _, Tryz.underlying26, rfl, rfl, by kernel_rfl⟩
theorem EqO_isS_24 : IsS Tryz.prog 24 3 := ⟨⟨_, Tryz.underlying24⟩, by kernel_rfl⟩
theorem alikeQ_any {w : World} {p q : Q6} {a1 a2 a3 a4 : Option Addr} {ac1 ac2 ac3 ac4 : Nat} (ha : Nm w p a1 ac1 a2 ac2 a3 ac3 a4 ac4) (hl : LenQ p) {u1 u2 u3 u4 : Option Addr} {uc1 uc2 uc3 uc4 : Nat} (hu : Nm w q u1 uc1 u2 uc2 u3 uc3 u4 uc4) (hm : LenQ q) {r : Bool} (hr : (sameF p.b1 p.t1 p.q1 q.b1 q.t1 q.q1 && sameF p.b2 p.t2 p.q2 q.b2 q.t2 q.q2) = r) : Calls Tryz.prog 37 #[numV p a1 ac1 a2 ac2 a3 ac3 a4 ac4, numV q u1 uc1 u2 uc2 u3 uc3 u4 uc4] w fun e w' => e = .returned (.bool r) ∧ Below w.heap.size w w' := by
 have S : St w w [] [(u4, q.q2), (u3, q.t2), (u2, q.q1), (u1, q.t1), (a4, p.q2), (a3, p.t2), (a2, p.q1), (a1, p.t1)] [] := ((((((((St.start w).addR ha.s1.rd).addR ha.s2.rd).addR ha.s3.rd).addR ha.s4.rd).addR hu.s1.rd).addR hu.s2.rd).addR hu.s3.rd).addR hu.s4.rd
 refine walk_of (l := [(0, .agg #[.bool p.b1, .slice a1 p.t1.length ac1, .slice a2 p.q1.length ac2, .bool p.b2, .slice a3 p.t2.length ac3, .slice a4 p.q2.length ac4]), (1, .agg #[.bool q.b1, .slice u1 q.t1.length uc1, .slice u2 q.q1.length uc2, .bool q.b2, .slice u3 q.t2.length uc3, .slice u4 q.q2.length uc4])]) Tryz.func37 rfl Tryz.ntmps37 rfl rfl ?_
 intro Q hret hnorm hP a A
 refine wsk fun K1 hK1 => wrl (seq_new A S rfl rfl rfl pg (does_box rfl rfl) rfl ?_)
 intro g2 w3 S a A
 refine seq_new A S rfl rfl rfl pg (does_box rfl rfl) rfl ?_
 intro g4 w5 S a A
 refine sda A λa A↦?_
 refine seq_end (hK1 _ _ (wsk fun K6 hK6 => wrl (sdo (v := .pointer (some ⟨g2, 0, none⟩)) A (does_field EqO_fld_26_0 rfl rfl) λa A↦?_)))
 refine sdo A (does_loadS S EqO_isS_24 rfl 1 rfl (cs := [.bool p.b1, .slice a1 p.t1.length ac1, .slice a2 p.q1.length ac2]) rfl rfl) λa A↦?_
 refine sdo (v := .pointer (some ⟨g4, 0, none⟩)) A (does_field EqO_fld_26_0 rfl rfl) λa A↦?_
 refine sdo A (does_loadS S EqO_isS_24 rfl 0 rfl (cs := [.bool q.b1, .slice u1 q.t1.length uc1, .slice u2 q.q1.length uc2]) rfl rfl) λa A↦?_
 rcases tf (sameF p.b1 p.t1 p.q1 q.b1 q.t1 q.q1) with hb7 | hb7
 ·
  refine sct A (ef rfl rfl) (ratSame_any ⟨(S.rd 7 rfl), ha.s1.nil, ha.s1.cap⟩ ⟨(S.rd 6 rfl), ha.s2.nil, ha.s2.cap⟩ ⟨(S.rd 3 rfl), hu.s1.nil, hu.s1.cap⟩ ⟨(S.rd 2 rfl), hu.s2.nil, hu.s2.cap⟩ hl.l1 hl.l2 hm.l1 hm.l2 hb7) ?_
  rintro _ w9 ⟨rfl, hb8⟩
  replace S := S.call hb8
  refine ⟨_, rfl, ?_⟩
  intro a A
  refine sdm A λa A↦?_
  refine sdo (v := .pointer (some ⟨g2, 3, none⟩)) A (does_field EqO_fld_26_1 rfl rfl) λa A↦?_
  refine sdo A (does_loadS S EqO_isS_24 rfl 1 rfl (cs := [.bool p.b2, .slice a3 p.t2.length ac3, .slice a4 p.q2.length ac4]) rfl rfl) λa A↦?_
  refine sdo (v := .pointer (some ⟨g4, 3, none⟩)) A (does_field EqO_fld_26_1 rfl rfl) λa A↦?_
  refine sdo A (does_loadS S EqO_isS_24 rfl 0 rfl (cs := [.bool q.b2, .slice u3 q.t2.length uc3, .slice u4 q.q2.length uc4]) rfl rfl) λa A↦?_
  rcases tf (sameF p.b2 p.t2 p.q2 q.b2 q.t2 q.q2) with hb10 | hb10
  ·
   refine sct A (ef rfl rfl) (ratSame_any ⟨(S.rd 5 rfl), ha.s3.nil, ha.s3.cap⟩ ⟨(S.rd 4 rfl), ha.s4.nil, ha.s4.cap⟩ ⟨(S.rd 1 rfl), hu.s3.nil, hu.s3.cap⟩ ⟨(S.rd 0 rfl), hu.s4.nil, hu.s4.cap⟩ hl.l3 hl.l4 hm.l3 hm.l4 hb10) ?_
   rintro _ w12 ⟨rfl, hb11⟩
   replace S := S.call hb11
   refine ⟨_, rfl, ?_⟩
   intro a A
   refine sdk (v := .bool true) A λa A↦?_
   refine sda A λa A↦?_
   refine seq_end (hK6 _ _ (wp_ret (hret _ _ (en1 A rfl (res_tmp rfl) ?_))))
   subst hr
   exact ⟨by rw [hb7, hb10]; try rfl, S.bel⟩
  ·
   refine sct A (ef rfl rfl) (ratSame_any ⟨(S.rd 5 rfl), ha.s3.nil, ha.s3.cap⟩ ⟨(S.rd 4 rfl), ha.s4.nil, ha.s4.cap⟩ ⟨(S.rd 1 rfl), hu.s3.nil, hu.s3.cap⟩ ⟨(S.rd 0 rfl), hu.s4.nil, hu.s4.cap⟩ hl.l3 hl.l4 hm.l3 hm.l4 hb10) ?_
   rintro _ w14 ⟨rfl, hb13⟩
   replace S := S.call hb13
   refine ⟨_, rfl, ?_⟩
   intro a A
   refine sdk (v := .bool false) A λa A↦?_
   refine sda A λa A↦?_
   refine seq_end (hK6 _ _ (wp_ret (hret _ _ (en1 A rfl (res_tmp rfl) ?_))))
   subst hr
   exact ⟨by rw [hb7, hb10]; try rfl, S.bel⟩
 ·
  refine sct A (ef rfl rfl) (ratSame_any ⟨(S.rd 7 rfl), ha.s1.nil, ha.s1.cap⟩ ⟨(S.rd 6 rfl), ha.s2.nil, ha.s2.cap⟩ ⟨(S.rd 3 rfl), hu.s1.nil, hu.s1.cap⟩ ⟨(S.rd 2 rfl), hu.s2.nil, hu.s2.cap⟩ hl.l1 hl.l2 hm.l1 hm.l2 hb7) ?_
  rintro _ w16 ⟨rfl, hb15⟩
  replace S := S.call hb15
  refine ⟨_, rfl, ?_⟩
  intro a A
  refine sdm A λa A↦?_
  iterate 5 refine seq_skip A rfl rfl rfl λa A↦?_
  refine sdk (v := .bool false) A λa A↦?_
  refine sda A λa A↦?_
  refine seq_end (hK6 _ _ (wp_ret (hret _ _ (en1 A rfl (res_tmp rfl) ?_))))
  subst hr
  exact ⟨by rw [hb7]; try rfl, S.bel⟩
end Go.Proofs.YtofbejppkldhnaaGreatDoor
namespace Go.Proofs.YtofbejppkldhnaaGreatDoor.G
open Go.RowKit
set_option linter.unusedVariables false
set_option linter.unusedSimpArgs false
/-! ### The same trees, by the document -/
mutual
def sameT : Tr → Tr → Bool
  | .mk k n q s rl ts, u => (decide (k = u.k) && (decide (n = u.n) && (decide (s = u.s) && (decide (rl = u.rl) && (sameF q.b1 q.t1 q.q1 u.q.b1 u.q.t1 u.q.q1 && sameF q.b2 q.t2 q.q2 u.q.b2 u.q.t2 u.q.q2))))) && (decide (ts.length = u.ts.length) && sameL ts u.ts)
def sameL : List Tr → List Tr → Bool
  | [], _ => true
  | _ :: _, [] => true
  | t :: ts, u :: us => sameT t u && sameL ts us
end
theorem sameF_iff {b b' : Bool} {t q t' q' : List Nat} : sameF b t q b' t' q' = true ↔ b = b' ∧ t = t' ∧ q = q' := by
  unfold sameF
  simp
theorem sameT_mk (k n : Int) (q : Q6) (s : ByteArray) (rl : List UInt8) (ts : List Tr) (k' n' : Int) (q' : Q6) (s' : ByteArray) (rl' : List UInt8) (ts' : List Tr) : sameT (.mk k n q s rl ts) (.mk k' n' q' s' rl' ts') = true ↔ k = k' ∧ n = n' ∧ q = q' ∧ s = s' ∧ rl = rl' ∧ ts.length = ts'.length ∧ sameL ts ts' = true := by
  rw [sameT]
  show ((decide (k = k') && (decide (n = n') && (decide (s = s') && (decide (rl = rl') && (sameF q.b1 q.t1 q.q1 q'.b1 q'.t1 q'.q1 && sameF q.b2 q.t2 q.q2 q'.b2 q'.t2 q'.q2))))) && (decide (ts.length = ts'.length) && sameL ts ts')) = true ↔ _
  simp only [Bool.and_eq_true, decide_eq_true_eq, sameF_iff]
  constructor
  · rintro ⟨⟨a, b, c, d, ⟨e1, e2, e3⟩, f1, f2, f3⟩, g, h⟩
    refine ⟨a, b, ?_, c, d, g, h⟩
    cases q; cases q'
    simp_all
  · rintro ⟨a, b, c, d, e, f, g⟩
    subst c
    exact ⟨⟨a, b, d, e, ⟨rfl, rfl, rfl⟩, rfl, rfl, rfl⟩, f, g⟩
theorem sameL_eq {ts : List Tr} (h : ∀ t ∈ ts, ∀ u, sameT t u = true ↔ t = u) : ∀ us : List Tr, ts.length = us.length → (sameL ts us = true ↔ ts = us) := by
  induction ts with
  | nil =>
    intro us hl
    cases us with
    | nil => simp [sameL]
    | cons u us => simp at hl
  | cons t ts ih =>
    intro us hl
    cases us with
    | nil => simp at hl
    | cons u us =>
      rw [sameL, Bool.and_eq_true, h t List.mem_cons_self u, ih (fun x hx => h x (List.mem_cons_of_mem _ hx)) us (by simpa using hl)]
      simp
theorem sameT_eq : ∀ t u : Tr, sameT t u = true ↔ t = u := by
  refine Tr.indT fun k n q s rl ts ih u => ?_
  obtain ⟨k', n', q', s', rl', ts'⟩ := u
  rw [sameT_mk]
  constructor
  · rintro ⟨a, b, c, d, e, f, g⟩
    rw [a, b, c, d, e, (sameL_eq ih ts' f).1 g]
  · intro h
    cases h
    exact ⟨rfl, rfl, rfl, rfl, rfl, rfl, (sameL_eq ih ts rfl).2 rfl⟩
theorem sameL_go {ts us : List Dt} {i : Nat} {t u : Dt} (hi : ts[i]? = some t) (hj : us[i]? = some u) : sameL ((ts.map Dt.tr).drop i) ((us.map Dt.tr).drop i) = (sameT t.tr u.tr && sameL ((ts.map Dt.tr).drop (i + 1)) ((us.map Dt.tr).drop (i + 1))) := by
  rw [drop_kid hi, drop_kid hj, sameL]
theorem sameL_end {ts us : List Dt} {i : Nat} (h : ¬ i < ts.length) : sameL ((ts.map Dt.tr).drop i) ((us.map Dt.tr).drop i) = true := by
  rw [drop_kids h, sameL]
theorem sameT_at (p r : Dt) : sameT p.tr r.tr = ((decide (p.d.k = r.d.k) && (decide (p.d.n = r.d.n) && (decide (p.d.s = r.d.s) && (decide (p.d.rl = r.d.rl) && (sameF p.d.y.q.b1 p.d.y.q.t1 p.d.y.q.q1 r.d.y.q.b1 r.d.y.q.t1 r.d.y.q.q1 && sameF p.d.y.q.b2 p.d.y.q.t2 p.d.y.q.q2 r.d.y.q.b2 r.d.y.q.t2 r.d.y.q.q2))))) && (decide (p.ts.length = r.ts.length) && sameL (p.ts.map Dt.tr) (r.ts.map Dt.tr))) := by
  rw [Dt.tr_eta p, Dt.tr_eta r, sameT, List.length_map]
  show _ = (_ && (decide (p.ts.length = r.ts.length) && _))
  rw [show (Tr.mk r.d.k r.d.n r.d.y.q r.d.s r.d.rl (r.ts.map Dt.tr)).ts.length = r.ts.length from List.length_map _]
  rfl
def SQ2 (p r : Dt) : Bool := sameF p.d.y.q.b1 p.d.y.q.t1 p.d.y.q.q1 r.d.y.q.b1 r.d.y.q.t1 r.d.y.q.q1 && sameF p.d.y.q.b2 p.d.y.q.t2 p.d.y.q.q2 r.d.y.q.b2 r.d.y.q.t2 r.d.y.q.q2
theorem same_no {p r : Dt} (h : p.d.k ≠ r.d.k ∨ p.d.n ≠ r.d.n ∨ p.d.s ≠ r.d.s ∨ p.d.rl ≠ r.d.rl ∨ p.ts.length ≠ r.ts.length ∨ SQ2 p r = false) : sameT p.tr r.tr = false := by
  rw [sameT_at]
  unfold SQ2 at h
  rcases h with h | h | h | h | h | h <;> simp [h]
theorem same_yes {p r : Dt} (h1 : p.d.k = r.d.k) (h2 : p.d.n = r.d.n) (h3 : p.d.s = r.d.s) (h4 : p.d.rl = r.d.rl) (h5 : p.ts.length = r.ts.length) (h6 : SQ2 p r = true) : sameT p.tr r.tr = sameL (p.ts.map Dt.tr) (r.ts.map Dt.tr) := by
  rw [sameT_at]
  unfold SQ2 at h6
  rw [decide_eq_true h1, decide_eq_true h2, decide_eq_true h3, decide_eq_true h4, decide_eq_true h5, h6]
  simp
theorem bytes_ext {a b : List UInt8} (hl : a.length = b.length) (h : ∀ j, j < a.length → a.getD j 0 = b.getD j 0) : a = b := by
  apply List.ext_getElem hl
  intro j h1 h2
  have := h j h1
  rwa [show a.getD j 0 = a[j] from by simp [List.getD, List.getElem?_eq_getElem h1], show b.getD j 0 = b[j] from by simp [List.getD, List.getElem?_eq_getElem h2]] at this
theorem ne_at {a b : List UInt8} {i : Nat} (h : (((a.getD i 0).toNat : Nat) : Int) ≠ (((b.getD i 0).toNat : Nat) : Int)) : a ≠ b := fun e => h (by rw [e])
theorem eq_at {a b : UInt8} (h : ((a.toNat : Nat) : Int) = ((b.toNat : Nat) : Int)) : a = b := UInt8.toNat_inj.1 (by omega)
set_option maxRecDepth 100000
theorem LiS_is1_27 : Is1 Tryz.prog 27 := ⟨⟨_, Tryz.underlying27, rfl⟩, by kernel_rfl⟩
theorem LiS_is1_28 : Is1 Tryz.prog 28 := ⟨⟨_, Tryz.underlying28, rfl⟩, by kernel_rfl⟩
theorem LiS_is1_3 : Is1 Tryz.prog 3 := ⟨⟨_, Tryz.underlying3, rfl⟩, by kernel_rfl⟩
theorem LiS_is1_5 : Is1 Tryz.prog 5 := ⟨⟨_, Tryz.underlying5, rfl⟩, by kernel_rfl⟩
theorem LiS_is1_9 : Is1 Tryz.prog 9 := ⟨⟨_, Tryz.underlying9, rfl⟩, by kernel_rfl⟩
theorem LiS_fld_30_0 : FieldAt Tryz.prog 30 0 0 := ⟨_, _, Tryz.underlying30, rfl, rfl, by kernel_rfl⟩
theorem LiS_fld_30_1 : FieldAt Tryz.prog 30 1 1 := ⟨_, _, Tryz.underlying30, rfl, rfl, by kernel_rfl⟩
theorem LiS_fld_30_2 : FieldAt Tryz.prog 30 2 2 := ⟨_, _, Tryz.underlying30, rfl, rfl, by kernel_rfl⟩
theorem LiS_fld_30_3 : FieldAt Tryz.prog 30 3 8 := ⟨_, _, Tryz.underlying30, rfl, rfl, by kernel_rfl⟩
theorem LiS_fld_30_4 : FieldAt Tryz.prog 30 4 9 := ⟨_, _, Tryz.underlying30, rfl, rfl, by kernel_rfl⟩
theorem LiS_fld_30_5 : FieldAt Tryz.prog 30 5 10 := ⟨_, _, Tryz.underlying30, rfl, rfl, by kernel_rfl⟩
theorem LiS_isS_26 : IsS Tryz.prog 26 6 := ⟨⟨_, Tryz.underlying26⟩, by kernel_rfl⟩
theorem LiS_isS_30 : IsS Tryz.prog 30 11 := ⟨⟨_, Tryz.underlying30⟩, by kernel_rfl⟩
theorem alikeD_any {w : World} {t u : Dt} (ht : t.rd w) (hu : u.rd w) {b : Bool} (h : SQ2 t u = b) : Calls Tryz.prog 37 #[t.d.y.val, u.d.y.val] w fun e w' => e = .returned (.bool b) ∧ Below w.heap.size w w' := alikeQ_any (Dt.okT ht).1.num (Dt.okT ht).1.len (Dt.okT hu).1.num (Dt.okT hu).1.len h
def RSames (n : Nat) : Prop := ∀ {w : World} {t u : Dt}, t.tr.bulk < n → t.rd w → u.rd w → Calls Tryz.prog 13 #[.agg (t.d.cells t.ts.length).toArray, .agg (u.d.cells u.ts.length).toArray] w fun e w' => e = .returned (.bool (sameT t.tr u.tr)) ∧ Below w.heap.size w w'
set_option maxHeartbeats 1000000 in
theorem rsames_step {n : Nat} (ih : RSames n) : RSames (n + 1) := by
 intro w t u hn ht hu
 have hlt := (Dt.okT ht).2
 have hrt : t.d.rl.length ≤ 9223372036854775807 := Nat.le_trans (Dt.okT ht).1.rcap (Dt.okT ht).1.rmax
 have hM : Mg w w ([]) := Mg.start w
 refine walk_of (l := [(0, .agg (t.d.cells t.ts.length).toArray), (1, .agg (u.d.cells u.ts.length).toArray)]) Tryz.func13 rfl Tryz.ntmps13 rfl rfl ?_
 intro Q hret hnorm hP a hA
 refine wp_seq_k (fun K1 hK1 => ?_)
 refine wp_region_lit ?_
 refine s_new (vs := [.int .i64 t.d.k, .int .i64 t.d.n, .bool t.d.y.q.b1, .slice t.d.y.o1 t.d.y.q.t1.length t.d.y.c1, .slice t.d.y.o2 t.d.y.q.q1.length t.d.y.c2, .bool t.d.y.q.b2, .slice t.d.y.o3 t.d.y.q.t2.length t.d.y.c3, .slice t.d.y.o4 t.d.y.q.q2.length t.d.y.c4, .string t.d.s, .slice t.d.ro t.d.rl.length t.d.rc, .slice t.d.lo t.ts.length t.d.lc]) (t := 30) hA hM rfl rfl rfl (fun g => .pointer (some ⟨g, 0, none⟩)) (does_box rfl rfl) (by decide) ?_
 intro g2 w3 hM a hA
 refine s_new (vs := [.int .i64 u.d.k, .int .i64 u.d.n, .bool u.d.y.q.b1, .slice u.d.y.o1 u.d.y.q.t1.length u.d.y.c1, .slice u.d.y.o2 u.d.y.q.q1.length u.d.y.c2, .bool u.d.y.q.b2, .slice u.d.y.o3 u.d.y.q.t2.length u.d.y.c3, .slice u.d.y.o4 u.d.y.q.q2.length u.d.y.c4, .string u.d.s, .slice u.d.ro u.d.rl.length u.d.rc, .slice u.d.lo u.ts.length u.d.lc]) (t := 30) hA hM rfl rfl rfl (fun g => .pointer (some ⟨g, 0, none⟩)) (does_box rfl rfl) (by decide) ?_
 intro g4 w5 hM a hA
 refine seq_do hA rfl rfl rfl (does_assign rfl) ?_
 intro a hA
 refine seq_end ?_
 refine hK1 _ _ ?_
 refine wp_seq_k (fun K6 hK6 => ?_)
 refine wp_seq_k (fun K7 hK7 => ?_)
 refine wp_region_lit ?_
 refine seq_do (v := .pointer (some ⟨g2, 0, none⟩)) hA rfl rfl rfl (does_field LiS_fld_30_0 rfl rfl) ?_
 intro a hA
 refine seq_do hA rfl rfl rfl (m_load1 hM LiS_is1_3 rfl 1 rfl rfl) ?_
 intro a hA
 refine seq_do (v := .pointer (some ⟨g4, 0, none⟩)) hA rfl rfl rfl (does_field LiS_fld_30_0 rfl rfl) ?_
 intro a hA
 refine seq_do hA rfl rfl rfl (m_load1 hM LiS_is1_3 rfl 0 rfl rfl) ?_
 intro a hA
 rcases Bool.eq_false_or_eq_true ((t.d.k != u.d.k)) with hb8 | hb8
 · have hb8' := bne_iff_ne.1 hb8
   refine seq_do (v := .bool true) hA rfl rfl rfl (does_bin rfl rfl (fun w => (bin_neq w).trans (by rw [hb8]))) ?_
   intro a hA
   refine seq_do hA rfl rfl rfl (does_move rfl) ?_
   intro a hA
   refine seq_skip hA rfl rfl rfl ?_
   intro a hA
   refine seq_skip hA rfl rfl rfl ?_
   intro a hA
   refine seq_skip hA rfl rfl rfl ?_
   intro a hA
   refine seq_skip hA rfl rfl rfl ?_
   intro a hA
   refine seq_skip hA rfl rfl rfl ?_
   intro a hA
   refine seq_do (v := .bool true) hA rfl rfl rfl (does_pick rfl rfl rfl rfl) ?_
   intro a hA
   refine seq_do hA rfl rfl rfl (does_move rfl) ?_
   intro a hA
   refine seq_skip hA rfl rfl rfl ?_
   intro a hA
   refine seq_skip hA rfl rfl rfl ?_
   intro a hA
   refine seq_skip hA rfl rfl rfl ?_
   intro a hA
   refine seq_skip hA rfl rfl rfl ?_
   intro a hA
   refine seq_skip hA rfl rfl rfl ?_
   intro a hA
   refine seq_do (v := .bool true) hA rfl rfl rfl (does_pick rfl rfl rfl rfl) ?_
   intro a hA
   refine seq_do hA rfl rfl rfl (does_move rfl) ?_
   intro a hA
   refine seq_skip hA rfl rfl rfl ?_
   intro a hA
   refine seq_skip hA rfl rfl rfl ?_
   intro a hA
   refine seq_skip hA rfl rfl rfl ?_
   intro a hA
   refine seq_skip hA rfl rfl rfl ?_
   intro a hA
   refine seq_skip hA rfl rfl rfl ?_
   intro a hA
   refine seq_skip hA rfl rfl rfl ?_
   intro a hA
   refine seq_skip hA rfl rfl rfl ?_
   intro a hA
   refine seq_do (v := .bool true) hA rfl rfl rfl (does_pick rfl rfl rfl rfl) ?_
   intro a hA
   refine seq_do hA rfl rfl rfl (does_move rfl) ?_
   intro a hA
   refine seq_skip hA rfl rfl rfl ?_
   intro a hA
   refine seq_skip hA rfl rfl rfl ?_
   intro a hA
   refine seq_skip hA rfl rfl rfl ?_
   intro a hA
   refine seq_skip hA rfl rfl rfl ?_
   intro a hA
   refine seq_skip hA rfl rfl rfl ?_
   intro a hA
   refine seq_skip hA rfl rfl rfl ?_
   intro a hA
   refine seq_skip hA rfl rfl rfl ?_
   intro a hA
   refine seq_do (v := .bool true) hA rfl rfl rfl (does_pick rfl rfl rfl rfl) ?_
   intro a hA
   refine seq_do hA rfl rfl rfl (does_move rfl) ?_
   intro a hA
   refine seq_skip hA rfl rfl rfl ?_
   intro a hA
   refine seq_skip hA rfl rfl rfl ?_
   intro a hA
   refine seq_skip hA rfl rfl rfl ?_
   intro a hA
   refine seq_skip hA rfl rfl rfl ?_
   intro a hA
   refine seq_skip hA rfl rfl rfl ?_
   intro a hA
   refine seq_skip hA rfl rfl rfl ?_
   intro a hA
   refine seq_do (v := .bool true) hA rfl rfl rfl (does_pick rfl rfl rfl rfl) ?_
   intro a hA
   refine seq_end ?_
   refine hK7 _ _ ?_
   refine wp_cond_true (hA.ev rfl) ?_
   refine wp_seq_k (fun K9 hK9 => ?_)
   refine wp_region_lit ?_
   refine seq_do hA rfl rfl rfl (does_assign rfl) ?_
   intro a hA
   refine seq_end ?_
   refine hK9 _ _ ?_
   refine wp_ret ?_
   refine hret _ _ ?_
   refine ends (v := .bool false) hA rfl (.cons (res_tmp rfl) .nil) rfl ?_
   exact ⟨by rw [same_no (.inl hb8')], hM.bel⟩
 · have hb8' := bne_eq_false_iff_eq.1 hb8
   refine seq_do (v := .bool false) hA rfl rfl rfl (does_bin rfl rfl (fun w => (bin_neq w).trans (by rw [hb8]))) ?_
   intro a hA
   refine seq_do hA rfl rfl rfl (does_move rfl) ?_
   intro a hA
   refine seq_do (v := .pointer (some ⟨g2, 1, none⟩)) hA rfl rfl rfl (does_field LiS_fld_30_1 rfl rfl) ?_
   intro a hA
   refine seq_do hA rfl rfl rfl (m_load1 hM LiS_is1_3 rfl 1 rfl rfl) ?_
   intro a hA
   refine seq_do (v := .pointer (some ⟨g4, 1, none⟩)) hA rfl rfl rfl (does_field LiS_fld_30_1 rfl rfl) ?_
   intro a hA
   refine seq_do hA rfl rfl rfl (m_load1 hM LiS_is1_3 rfl 0 rfl rfl) ?_
   intro a hA
   rcases Bool.eq_false_or_eq_true ((t.d.n != u.d.n)) with hb10 | hb10
   · have hb10' := bne_iff_ne.1 hb10
     refine seq_do (v := .bool true) hA rfl rfl rfl (does_bin rfl rfl (fun w => (bin_neq w).trans (by rw [hb10]))) ?_
     intro a hA
     refine seq_do (v := .bool true) hA rfl rfl rfl (does_pick rfl rfl rfl rfl) ?_
     intro a hA
     refine seq_do hA rfl rfl rfl (does_move rfl) ?_
     intro a hA
     refine seq_skip hA rfl rfl rfl ?_
     intro a hA
     refine seq_skip hA rfl rfl rfl ?_
     intro a hA
     refine seq_skip hA rfl rfl rfl ?_
     intro a hA
     refine seq_skip hA rfl rfl rfl ?_
     intro a hA
     refine seq_skip hA rfl rfl rfl ?_
     intro a hA
     refine seq_do (v := .bool true) hA rfl rfl rfl (does_pick rfl rfl rfl rfl) ?_
     intro a hA
     refine seq_do hA rfl rfl rfl (does_move rfl) ?_
     intro a hA
     refine seq_skip hA rfl rfl rfl ?_
     intro a hA
     refine seq_skip hA rfl rfl rfl ?_
     intro a hA
     refine seq_skip hA rfl rfl rfl ?_
     intro a hA
     refine seq_skip hA rfl rfl rfl ?_
     intro a hA
     refine seq_skip hA rfl rfl rfl ?_
     intro a hA
     refine seq_skip hA rfl rfl rfl ?_
     intro a hA
     refine seq_skip hA rfl rfl rfl ?_
     intro a hA
     refine seq_do (v := .bool true) hA rfl rfl rfl (does_pick rfl rfl rfl rfl) ?_
     intro a hA
     refine seq_do hA rfl rfl rfl (does_move rfl) ?_
     intro a hA
     refine seq_skip hA rfl rfl rfl ?_
     intro a hA
     refine seq_skip hA rfl rfl rfl ?_
     intro a hA
     refine seq_skip hA rfl rfl rfl ?_
     intro a hA
     refine seq_skip hA rfl rfl rfl ?_
     intro a hA
     refine seq_skip hA rfl rfl rfl ?_
     intro a hA
     refine seq_skip hA rfl rfl rfl ?_
     intro a hA
     refine seq_skip hA rfl rfl rfl ?_
     intro a hA
     refine seq_do (v := .bool true) hA rfl rfl rfl (does_pick rfl rfl rfl rfl) ?_
     intro a hA
     refine seq_do hA rfl rfl rfl (does_move rfl) ?_
     intro a hA
     refine seq_skip hA rfl rfl rfl ?_
     intro a hA
     refine seq_skip hA rfl rfl rfl ?_
     intro a hA
     refine seq_skip hA rfl rfl rfl ?_
     intro a hA
     refine seq_skip hA rfl rfl rfl ?_
     intro a hA
     refine seq_skip hA rfl rfl rfl ?_
     intro a hA
     refine seq_skip hA rfl rfl rfl ?_
     intro a hA
     refine seq_do (v := .bool true) hA rfl rfl rfl (does_pick rfl rfl rfl rfl) ?_
     intro a hA
     refine seq_end ?_
     refine hK7 _ _ ?_
     refine wp_cond_true (hA.ev rfl) ?_
     refine wp_seq_k (fun K11 hK11 => ?_)
     refine wp_region_lit ?_
     refine seq_do hA rfl rfl rfl (does_assign rfl) ?_
     intro a hA
     refine seq_end ?_
     refine hK11 _ _ ?_
     refine wp_ret ?_
     refine hret _ _ ?_
     refine ends (v := .bool false) hA rfl (.cons (res_tmp rfl) .nil) rfl ?_
     exact ⟨by rw [same_no (.inr (.inl hb10'))], hM.bel⟩
   · have hb10' := bne_eq_false_iff_eq.1 hb10
     refine seq_do (v := .bool false) hA rfl rfl rfl (does_bin rfl rfl (fun w => (bin_neq w).trans (by rw [hb10]))) ?_
     intro a hA
     refine seq_do (v := .bool false) hA rfl rfl rfl (does_pick rfl rfl rfl rfl) ?_
     intro a hA
     refine seq_do hA rfl rfl rfl (does_move rfl) ?_
     intro a hA
     refine seq_do (v := .pointer (some ⟨g2, 8, none⟩)) hA rfl rfl rfl (does_field LiS_fld_30_3 rfl rfl) ?_
     intro a hA
     refine seq_do hA rfl rfl rfl (m_load1 hM LiS_is1_9 rfl 1 rfl rfl) ?_
     intro a hA
     refine seq_do (v := .pointer (some ⟨g4, 8, none⟩)) hA rfl rfl rfl (does_field LiS_fld_30_3 rfl rfl) ?_
     intro a hA
     refine seq_do hA rfl rfl rfl (m_load1 hM LiS_is1_9 rfl 0 rfl rfl) ?_
     intro a hA
     rcases Bool.eq_false_or_eq_true (decide (t.d.s = u.d.s)) with hb12 | hb12
     · have hb12' := of_decide_eq_true hb12
       refine seq_do (v := .bool false) hA rfl rfl rfl (does_bin rfl rfl (fun w => (bin_neqS Tryz.underlying9 w).trans (by rw [hb12] <;> rfl))) ?_
       intro a hA
       refine seq_do (v := .bool false) hA rfl rfl rfl (does_pick rfl rfl rfl rfl) ?_
       intro a hA
       refine seq_do hA rfl rfl rfl (does_move rfl) ?_
       intro a hA
       refine seq_do (v := .pointer (some ⟨g2, 9, none⟩)) hA rfl rfl rfl (does_field LiS_fld_30_4 rfl rfl) ?_
       intro a hA
       refine seq_do hA rfl rfl rfl (m_load1 hM LiS_is1_27 rfl 1 rfl rfl) ?_
       intro a hA
       refine seq_do (v := .int .i64 (((t.d.rl.length : Nat) : Int))) hA rfl rfl rfl (does_len Tryz.underlying27 rfl) ?_
       intro a hA
       refine seq_do (v := .pointer (some ⟨g4, 9, none⟩)) hA rfl rfl rfl (does_field LiS_fld_30_4 rfl rfl) ?_
       intro a hA
       refine seq_do hA rfl rfl rfl (m_load1 hM LiS_is1_27 rfl 0 rfl rfl) ?_
       intro a hA
       refine seq_do (v := .int .i64 (((u.d.rl.length : Nat) : Int))) hA rfl rfl rfl (does_len Tryz.underlying27 rfl) ?_
       intro a hA
       rcases Bool.eq_false_or_eq_true ((((t.d.rl.length : Nat) : Int) != ((u.d.rl.length : Nat) : Int))) with hb13 | hb13
       · have hb13' := bne_iff_ne.1 hb13
         refine seq_do (v := .bool true) hA rfl rfl rfl (does_bin rfl rfl (fun w => (bin_neq w).trans (by rw [hb13]))) ?_
         intro a hA
         refine seq_do (v := .bool true) hA rfl rfl rfl (does_pick rfl rfl rfl rfl) ?_
         intro a hA
         refine seq_do hA rfl rfl rfl (does_move rfl) ?_
         intro a hA
         refine seq_skip hA rfl rfl rfl ?_
         intro a hA
         refine seq_skip hA rfl rfl rfl ?_
         intro a hA
         refine seq_skip hA rfl rfl rfl ?_
         intro a hA
         refine seq_skip hA rfl rfl rfl ?_
         intro a hA
         refine seq_skip hA rfl rfl rfl ?_
         intro a hA
         refine seq_skip hA rfl rfl rfl ?_
         intro a hA
         refine seq_skip hA rfl rfl rfl ?_
         intro a hA
         refine seq_do (v := .bool true) hA rfl rfl rfl (does_pick rfl rfl rfl rfl) ?_
         intro a hA
         refine seq_do hA rfl rfl rfl (does_move rfl) ?_
         intro a hA
         refine seq_skip hA rfl rfl rfl ?_
         intro a hA
         refine seq_skip hA rfl rfl rfl ?_
         intro a hA
         refine seq_skip hA rfl rfl rfl ?_
         intro a hA
         refine seq_skip hA rfl rfl rfl ?_
         intro a hA
         refine seq_skip hA rfl rfl rfl ?_
         intro a hA
         refine seq_skip hA rfl rfl rfl ?_
         intro a hA
         refine seq_do (v := .bool true) hA rfl rfl rfl (does_pick rfl rfl rfl rfl) ?_
         intro a hA
         refine seq_end ?_
         refine hK7 _ _ ?_
         refine wp_cond_true (hA.ev rfl) ?_
         refine wp_seq_k (fun K14 hK14 => ?_)
         refine wp_region_lit ?_
         refine seq_do hA rfl rfl rfl (does_assign rfl) ?_
         intro a hA
         refine seq_end ?_
         refine hK14 _ _ ?_
         refine wp_ret ?_
         refine hret _ _ ?_
         refine ends (v := .bool false) hA rfl (.cons (res_tmp rfl) .nil) rfl ?_
         exact ⟨by rw [same_no (.inr (.inr (.inr (.inl (fun e => hb13' (by rw [e]))))))], hM.bel⟩
       · have hb13' := bne_eq_false_iff_eq.1 hb13
         refine seq_do (v := .bool false) hA rfl rfl rfl (does_bin rfl rfl (fun w => (bin_neq w).trans (by rw [hb13]))) ?_
         intro a hA
         refine seq_do (v := .bool false) hA rfl rfl rfl (does_pick rfl rfl rfl rfl) ?_
         intro a hA
         refine seq_do hA rfl rfl rfl (does_move rfl) ?_
         intro a hA
         refine seq_do (v := .pointer (some ⟨g2, 10, none⟩)) hA rfl rfl rfl (does_field LiS_fld_30_5 rfl rfl) ?_
         intro a hA
         refine seq_do hA rfl rfl rfl (m_load1 hM LiS_is1_28 rfl 1 rfl rfl) ?_
         intro a hA
         refine seq_do (v := .int .i64 (((t.ts.length : Nat) : Int))) hA rfl rfl rfl (does_len Tryz.underlying28 rfl) ?_
         intro a hA
         refine seq_do (v := .pointer (some ⟨g4, 10, none⟩)) hA rfl rfl rfl (does_field LiS_fld_30_5 rfl rfl) ?_
         intro a hA
         refine seq_do hA rfl rfl rfl (m_load1 hM LiS_is1_28 rfl 0 rfl rfl) ?_
         intro a hA
         refine seq_do (v := .int .i64 (((u.ts.length : Nat) : Int))) hA rfl rfl rfl (does_len Tryz.underlying28 rfl) ?_
         intro a hA
         rcases Bool.eq_false_or_eq_true ((((t.ts.length : Nat) : Int) != ((u.ts.length : Nat) : Int))) with hb15 | hb15
         · have hb15' := bne_iff_ne.1 hb15
           refine seq_do (v := .bool true) hA rfl rfl rfl (does_bin rfl rfl (fun w => (bin_neq w).trans (by rw [hb15]))) ?_
           intro a hA
           refine seq_do (v := .bool true) hA rfl rfl rfl (does_pick rfl rfl rfl rfl) ?_
           intro a hA
           refine seq_do hA rfl rfl rfl (does_move rfl) ?_
           intro a hA
           refine seq_skip hA rfl rfl rfl ?_
           intro a hA
           refine seq_skip hA rfl rfl rfl ?_
           intro a hA
           refine seq_skip hA rfl rfl rfl ?_
           intro a hA
           refine seq_skip hA rfl rfl rfl ?_
           intro a hA
           refine seq_skip hA rfl rfl rfl ?_
           intro a hA
           refine seq_skip hA rfl rfl rfl ?_
           intro a hA
           refine seq_do (v := .bool true) hA rfl rfl rfl (does_pick rfl rfl rfl rfl) ?_
           intro a hA
           refine seq_end ?_
           refine hK7 _ _ ?_
           refine wp_cond_true (hA.ev rfl) ?_
           refine wp_seq_k (fun K16 hK16 => ?_)
           refine wp_region_lit ?_
           refine seq_do hA rfl rfl rfl (does_assign rfl) ?_
           intro a hA
           refine seq_end ?_
           refine hK16 _ _ ?_
           refine wp_ret ?_
           refine hret _ _ ?_
           refine ends (v := .bool false) hA rfl (.cons (res_tmp rfl) .nil) rfl ?_
           exact ⟨by rw [same_no (.inr (.inr (.inr (.inr (.inl (fun e => hb15' (by rw [e])))))))], hM.bel⟩
         · have hb15' := bne_eq_false_iff_eq.1 hb15
           refine seq_do (v := .bool false) hA rfl rfl rfl (does_bin rfl rfl (fun w => (bin_neq w).trans (by rw [hb15]))) ?_
           intro a hA
           refine seq_do (v := .bool false) hA rfl rfl rfl (does_pick rfl rfl rfl rfl) ?_
           intro a hA
           refine seq_do hA rfl rfl rfl (does_move rfl) ?_
           intro a hA
           refine seq_do (v := .pointer (some ⟨g2, 2, none⟩)) hA rfl rfl rfl (does_field LiS_fld_30_2 rfl rfl) ?_
           intro a hA
           refine seq_do hA rfl rfl rfl (m_loadS hM LiS_isS_26 rfl 1 rfl (cs := [.bool t.d.y.q.b1, .slice t.d.y.o1 t.d.y.q.t1.length t.d.y.c1, .slice t.d.y.o2 t.d.y.q.q1.length t.d.y.c2, .bool t.d.y.q.b2, .slice t.d.y.o3 t.d.y.q.t2.length t.d.y.c3, .slice t.d.y.o4 t.d.y.q.q2.length t.d.y.c4]) rfl rfl) ?_
           intro a hA
           refine seq_do (v := .pointer (some ⟨g4, 2, none⟩)) hA rfl rfl rfl (does_field LiS_fld_30_2 rfl rfl) ?_
           intro a hA
           refine seq_do hA rfl rfl rfl (m_loadS hM LiS_isS_26 rfl 0 rfl (cs := [.bool u.d.y.q.b1, .slice u.d.y.o1 u.d.y.q.t1.length u.d.y.c1, .slice u.d.y.o2 u.d.y.q.q1.length u.d.y.c2, .bool u.d.y.q.b2, .slice u.d.y.o3 u.d.y.q.t2.length u.d.y.c3, .slice u.d.y.o4 u.d.y.q.q2.length u.d.y.c4]) rfl rfl) ?_
           intro a hA
           rcases Bool.eq_false_or_eq_true (SQ2 t u) with hb17 | hb17
           · refine seq_call hA rfl rfl rfl (enters_func rfl rfl (fun w => by kernel_rfl)) (alikeD_any (Dt.keep hM.bel _ ht) (Dt.keep hM.bel _ hu) hb17) ?_
             rintro _ w19 ⟨rfl, hb18⟩
             replace hM := hM.call hb18
             refine ⟨_, rfl, ?_⟩
             intro a hA
             refine seq_do (v := .bool false) hA rfl rfl rfl (does_un rfl un_not) ?_
             intro a hA
             refine seq_do (v := .bool false) hA rfl rfl rfl (does_pick rfl rfl rfl rfl) ?_
             intro a hA
             refine seq_end ?_
             refine hK7 _ _ ?_
             refine wp_cond_false (hA.ev rfl) ?_
             refine wp_skip ?_
             refine hK6 _ _ ?_
             refine wp_seq_k (fun K20 hK20 => ?_)
             refine wp_seq_k (fun K21 hK21 => ?_)
             refine wp_region_lit ?_
             refine seq_do hA rfl rfl rfl (does_assign rfl) ?_
             intro a hA
             refine seq_end ?_
             refine hK21 _ _ ?_
             refine wp_block ?_
             refine wp_loop_n (fun m_ a w1 => ∃ (i : Nat), m_ = 1 + (t.d.rl.length - i) ∧ (i ≤ t.d.rl.length ∧ ∀ j, j < i → t.d.rl.getD j 0 = u.d.rl.getD j 0) ∧ Sl a 89 [(0, .agg (t.d.cells t.ts.length).toArray), (1, .agg (u.d.cells u.ts.length).toArray), (2, .pointer (some ⟨g2, 0, none⟩)), (3, .pointer (some ⟨g4, 0, none⟩)), (5, .int .i64 (((i : Nat) : Int))), (7, .pointer (some ⟨g2, 0, none⟩)), (8, .int .i64 t.d.k), (9, .pointer (some ⟨g4, 0, none⟩)), (10, .int .i64 u.d.k), (11, .bool false), (12, .bool false), (13, .pointer (some ⟨g2, 1, none⟩)), (14, .int .i64 t.d.n), (15, .pointer (some ⟨g4, 1, none⟩)), (16, .int .i64 u.d.n), (17, .bool false), (18, .bool false), (19, .bool false), (20, .pointer (some ⟨g2, 8, none⟩)), (21, .string t.d.s), (22, .pointer (some ⟨g4, 8, none⟩)), (23, .string u.d.s), (24, .bool false), (25, .bool false), (26, .bool false), (27, .pointer (some ⟨g2, 9, none⟩)), (28, .slice t.d.ro t.d.rl.length t.d.rc), (29, .int .i64 (((t.d.rl.length : Nat) : Int))), (30, .pointer (some ⟨g4, 9, none⟩)), (31, .slice u.d.ro u.d.rl.length u.d.rc), (32, .int .i64 (((u.d.rl.length : Nat) : Int))), (33, .bool false), (34, .bool false), (35, .bool false), (36, .pointer (some ⟨g2, 10, none⟩)), (37, .slice t.d.lo t.ts.length t.d.lc), (38, .int .i64 (((t.ts.length : Nat) : Int))), (39, .pointer (some ⟨g4, 10, none⟩)), (40, .slice u.d.lo u.ts.length u.d.lc), (41, .int .i64 (((u.ts.length : Nat) : Int))), (42, .bool false), (43, .bool false), (44, .bool false), (45, .pointer (some ⟨g2, 2, none⟩)), (46, .agg #[.bool t.d.y.q.b1, .slice t.d.y.o1 t.d.y.q.t1.length t.d.y.c1, .slice t.d.y.o2 t.d.y.q.q1.length t.d.y.c2, .bool t.d.y.q.b2, .slice t.d.y.o3 t.d.y.q.t2.length t.d.y.c3, .slice t.d.y.o4 t.d.y.q.q2.length t.d.y.c4]), (47, .pointer (some ⟨g4, 2, none⟩)), (48, .agg #[.bool u.d.y.q.b1, .slice u.d.y.o1 u.d.y.q.t1.length u.d.y.c1, .slice u.d.y.o2 u.d.y.q.q1.length u.d.y.c2, .bool u.d.y.q.b2, .slice u.d.y.o3 u.d.y.q.t2.length u.d.y.c3, .slice u.d.y.o4 u.d.y.q.q2.length u.d.y.c4]), (49, .bool true), (50, .bool false), (51, .bool false)] ∧ Mg w w1 (.obj g4 (.cells (u.d.cells u.ts.length).toArray 30) :: .obj g2 (.cells (t.d.cells t.ts.length).toArray 30) :: [])) _ ⟨0, rfl, ⟨Nat.zero_le _, fun j hj => absurd hj (Nat.not_lt_zero _)⟩, hA.keep _ ⟨rfl, rfl, rfl, rfl, rfl, rfl, rfl, rfl, rfl, rfl, rfl, rfl, rfl, rfl, rfl, rfl, rfl, rfl, rfl, rfl, rfl, rfl, rfl, rfl, rfl, rfl, rfl, rfl, rfl, rfl, rfl, rfl, rfl, rfl, rfl, rfl, rfl, rfl, rfl, rfl, rfl, rfl, rfl, rfl, rfl, rfl, rfl, rfl, rfl, rfl, trivial⟩, hM⟩ ?_
             clear hM hA
             rintro m_ a w22 ⟨i, rfl, hinv24, hA, hM⟩ K23 hK23
             obtain ⟨hi0, hin8⟩ := hinv24
             refine wp_seq_k (fun K25 hK25 => ?_)
             refine wp_seq_k (fun K26 hK26 => ?_)
             refine wp_region_lit ?_
             refine seq_do hA rfl rfl rfl (does_move rfl) ?_
             intro a hA
             refine seq_do (v := .pointer (some ⟨g2, 9, none⟩)) hA rfl rfl rfl (does_field LiS_fld_30_4 rfl rfl) ?_
             intro a hA
             refine seq_do hA rfl rfl rfl (m_load1 hM LiS_is1_27 rfl 1 rfl rfl) ?_
             intro a hA
             refine seq_do (v := .int .i64 (((t.d.rl.length : Nat) : Int))) hA rfl rfl rfl (does_len Tryz.underlying27 rfl) ?_
             intro a hA
             rcases Bool.eq_false_or_eq_true (decide (((i : Nat) : Int) < ((t.d.rl.length : Nat) : Int))) with hb27 | hb27
             · have hb27' := of_decide_eq_true hb27
               refine seq_do (v := .bool true) hA rfl rfl rfl (does_bin rfl rfl (fun w => (bin_lss w).trans (by rw [hb27]))) ?_
               intro a hA
               refine seq_end ?_
               refine hK26 _ _ ?_
               refine wp_cond_true (hA.ev rfl) ?_
               refine wp_skip ?_
               refine hK25 _ _ ?_
               refine wp_seq_k (fun K28 hK28 => ?_)
               refine wp_block ?_
               refine wp_seq_k (fun K29 hK29 => ?_)
               refine wp_draw (S := fun w1 => Mg w w1 (.obj g4 (.cells (u.d.cells u.ts.length).toArray 30) :: .obj g2 (.cells (t.d.cells t.ts.length).toArray 30) :: [])) (by kernel_rfl) ?_
               replace hM := hM.drew
               refine any_tk (v := .pointer (some ⟨g2, 9, none⟩)) hA 0 rfl rfl rfl rfl hP (hM.sub (.cons_cons _ (.cons_cons _ (List.nil_sublist _)))) (fun w1 hM => does_field LiS_fld_30_4 rfl rfl) ?_
               intro a hA
               refine any_tk hA 1 rfl rfl rfl rfl hP (hM.sub (.cons_cons _ (.cons_cons _ (List.nil_sublist _)))) (fun w1 hM => m_load1 hM LiS_is1_27 rfl 1 rfl rfl) ?_
               intro a hA
               refine any_tk hA 2 rfl rfl rfl rfl hP (hM.sub (.cons_cons _ (.cons_cons _ (List.nil_sublist _)))) (fun w1 hM => does_move rfl) ?_
               intro a hA
               obtain ⟨bt, ot, ht1, ht2, ht3⟩ := rb_open (i := i) (Dt.okT ht).1.raw (by omega)
               refine any_tk (v := .pointer (some ⟨bt, ot + i, none⟩)) hA 3 rfl rfl rfl rfl hP (hM.sub (.cons_cons _ (.cons_cons _ (List.nil_sublist _)))) (fun w1 hM => does_indexRow (k := i) Tryz.underlying27 (by kernel_rfl) rfl rfl rfl ht1 (by omega)) ?_
               intro a hA
               refine any_tk hA 4 rfl rfl rfl rfl hP (hM.sub (.cons_cons _ (.cons_cons _ (List.nil_sublist _)))) (fun w1 hM => m_loadR hM ht2 (ht3 i (by omega)) LiS_is1_5 rfl) ?_
               intro a hA
               refine any_tk (v := .pointer (some ⟨g4, 9, none⟩)) hA 5 rfl rfl rfl rfl hP (hM.sub (.cons_cons _ (.cons_cons _ (List.nil_sublist _)))) (fun w1 hM => does_field LiS_fld_30_4 rfl rfl) ?_
               intro a hA
               refine any_tk hA 6 rfl rfl rfl rfl hP (hM.sub (.cons_cons _ (.cons_cons _ (List.nil_sublist _)))) (fun w1 hM => m_load1 hM LiS_is1_27 rfl 0 rfl rfl) ?_
               intro a hA
               refine any_tk hA 7 rfl rfl rfl rfl hP (hM.sub (.cons_cons _ (.cons_cons _ (List.nil_sublist _)))) (fun w1 hM => does_move rfl) ?_
               intro a hA
               obtain ⟨bu, ou, hu1, hu2, hu3⟩ := rb_open (i := i) (Dt.okT hu).1.raw (by omega)
               refine any_tk (v := .pointer (some ⟨bu, ou + i, none⟩)) hA 8 rfl rfl rfl rfl hP (hM.sub (.cons_cons _ (.cons_cons _ (List.nil_sublist _)))) (fun w1 hM => does_indexRow (k := i) Tryz.underlying27 (by kernel_rfl) rfl rfl rfl hu1 (by omega)) ?_
               intro a hA
               refine any_tk hA 9 rfl rfl rfl rfl hP (hM.sub (.cons_cons _ (.cons_cons _ (List.nil_sublist _)))) (fun w1 hM => m_loadR hM hu2 (hu3 i (by omega)) LiS_is1_5 rfl) ?_
               intro a hA
               rcases Bool.eq_false_or_eq_true (((((t.d.rl.getD i 0).toNat : Nat) : Int) != (((u.d.rl.getD i 0).toNat : Nat) : Int))) with hb30 | hb30
               · have hb30' := bne_iff_ne.1 hb30
                 refine any_tk (v := .bool true) hA 10 rfl rfl rfl rfl hP (hM.sub (.cons_cons _ (.cons_cons _ (List.nil_sublist _)))) (fun w1 hM => does_bin rfl rfl (fun w => (bin_neq w).trans (by rw [hb30]))) ?_
                 intro a hA
                 refine any_end (by kernel_rfl) ?_
                 refine hK29 _ _ ?_
                 refine wp_cond_true (hA.ev rfl) ?_
                 refine wp_seq_k (fun K31 hK31 => ?_)
                 refine wp_region_lit ?_
                 refine seq_do hA rfl rfl rfl (does_assign rfl) ?_
                 intro a hA
                 refine seq_end ?_
                 refine hK31 _ _ ?_
                 refine wp_ret ?_
                 refine hret _ _ ?_
                 refine ends (v := .bool false) hA rfl (.cons (res_tmp rfl) .nil) rfl ?_
                 exact ⟨by rw [same_no (.inr (.inr (.inr (.inl (ne_at hb30')))))], hM.bel⟩
               · have hb30' := bne_eq_false_iff_eq.1 hb30
                 refine any_tk (v := .bool false) hA 10 rfl rfl rfl rfl hP (hM.sub (.cons_cons _ (.cons_cons _ (List.nil_sublist _)))) (fun w1 hM => does_bin rfl rfl (fun w => (bin_neq w).trans (by rw [hb30]))) ?_
                 intro a hA
                 refine any_end (by kernel_rfl) ?_
                 refine hK29 _ _ ?_
                 refine wp_cond_false (hA.ev rfl) ?_
                 refine wp_skip ?_
                 refine hK28 _ _ ?_
                 refine wp_region_lit ?_
                 refine seq_do hA rfl rfl rfl (does_move rfl) ?_
                 intro a hA
                 refine seq_do (v := .int .i64 (((i + 1 : Nat) : Int))) hA rfl rfl rfl (does_bin rfl rfl (fun w => (bin_add (i64In (by omega) (by omega)) w).trans (by rw [show (((i : Nat) : Int) + 1 : Int) = ((i + 1 : Nat) : Int) from by omega]))) ?_
                 intro a hA
                 refine seq_do hA rfl rfl rfl (does_assign rfl) ?_
                 intro a hA
                 refine seq_end ?_
                 refine hK23 _ _ _ (by omega) ⟨i + 1, rfl, ⟨by omega, fun j hj => if h9 : j < i then hin8 j h9 else by have h8 : j = i := (by omega); subst h8; exact eq_at hb30'⟩, hA.keep _ ⟨rfl, rfl, rfl, rfl, rfl, rfl, rfl, rfl, rfl, rfl, rfl, rfl, rfl, rfl, rfl, rfl, rfl, rfl, rfl, rfl, rfl, rfl, rfl, rfl, rfl, rfl, rfl, rfl, rfl, rfl, rfl, rfl, rfl, rfl, rfl, rfl, rfl, rfl, rfl, rfl, rfl, rfl, rfl, rfl, rfl, rfl, rfl, rfl, rfl, rfl, trivial⟩, hM⟩
             · have hb27' := of_decide_eq_false hb27
               refine seq_do (v := .bool false) hA rfl rfl rfl (does_bin rfl rfl (fun w => (bin_lss w).trans (by rw [hb27]))) ?_
               intro a hA
               refine seq_end ?_
               refine hK26 _ _ ?_
               refine wp_cond_false (hA.ev rfl) ?_
               refine wp_exit ?_
               refine hK20 _ _ ?_
               refine wp_seq_k (fun K32 hK32 => ?_)
               refine wp_seq_k (fun K33 hK33 => ?_)
               refine wp_region_lit ?_
               refine seq_do hA rfl rfl rfl (does_assign rfl) ?_
               intro a hA
               refine seq_end ?_
               refine hK33 _ _ ?_
               refine wp_block ?_
               have hrl : t.d.rl = u.d.rl := bytes_ext (by omega) (fun j hj => hin8 j (by omega))
               have hsy := same_yes hb8' hb10' hb12' hrl (by omega) hb17
               refine wp_loop_n (fun m_ a w1 => ∃ (j : Nat), m_ = 1 + (t.ts.length - j) ∧ (j ≤ t.ts.length ∧ sameL (t.ts.map Dt.tr) (u.ts.map Dt.tr) = sameL ((t.ts.map Dt.tr).drop j) ((u.ts.map Dt.tr).drop j)) ∧ Sl a 89 [(0, .agg (t.d.cells t.ts.length).toArray), (1, .agg (u.d.cells u.ts.length).toArray), (2, .pointer (some ⟨g2, 0, none⟩)), (3, .pointer (some ⟨g4, 0, none⟩)), (5, .int .i64 (((i : Nat) : Int))), (6, .int .i64 (((j : Nat) : Int))), (7, .pointer (some ⟨g2, 0, none⟩)), (8, .int .i64 t.d.k), (9, .pointer (some ⟨g4, 0, none⟩)), (10, .int .i64 u.d.k), (11, .bool false), (12, .bool false), (13, .pointer (some ⟨g2, 1, none⟩)), (14, .int .i64 t.d.n), (15, .pointer (some ⟨g4, 1, none⟩)), (16, .int .i64 u.d.n), (17, .bool false), (18, .bool false), (19, .bool false), (20, .pointer (some ⟨g2, 8, none⟩)), (21, .string t.d.s), (22, .pointer (some ⟨g4, 8, none⟩)), (23, .string u.d.s), (24, .bool false), (25, .bool false), (26, .bool false), (27, .pointer (some ⟨g2, 9, none⟩)), (28, .slice t.d.ro t.d.rl.length t.d.rc), (29, .int .i64 (((t.d.rl.length : Nat) : Int))), (30, .pointer (some ⟨g4, 9, none⟩)), (31, .slice u.d.ro u.d.rl.length u.d.rc), (32, .int .i64 (((u.d.rl.length : Nat) : Int))), (33, .bool false), (34, .bool false), (35, .bool false), (36, .pointer (some ⟨g2, 10, none⟩)), (37, .slice t.d.lo t.ts.length t.d.lc), (38, .int .i64 (((t.ts.length : Nat) : Int))), (39, .pointer (some ⟨g4, 10, none⟩)), (40, .slice u.d.lo u.ts.length u.d.lc), (41, .int .i64 (((u.ts.length : Nat) : Int))), (42, .bool false), (43, .bool false), (44, .bool false), (45, .pointer (some ⟨g2, 2, none⟩)), (46, .agg #[.bool t.d.y.q.b1, .slice t.d.y.o1 t.d.y.q.t1.length t.d.y.c1, .slice t.d.y.o2 t.d.y.q.q1.length t.d.y.c2, .bool t.d.y.q.b2, .slice t.d.y.o3 t.d.y.q.t2.length t.d.y.c3, .slice t.d.y.o4 t.d.y.q.q2.length t.d.y.c4]), (47, .pointer (some ⟨g4, 2, none⟩)), (48, .agg #[.bool u.d.y.q.b1, .slice u.d.y.o1 u.d.y.q.t1.length u.d.y.c1, .slice u.d.y.o2 u.d.y.q.q1.length u.d.y.c2, .bool u.d.y.q.b2, .slice u.d.y.o3 u.d.y.q.t2.length u.d.y.c3, .slice u.d.y.o4 u.d.y.q.q2.length u.d.y.c4]), (49, .bool true), (50, .bool false), (51, .bool false), (52, .int .i64 (((i : Nat) : Int))), (53, .pointer (some ⟨g2, 9, none⟩)), (54, .slice t.d.ro t.d.rl.length t.d.rc), (55, .int .i64 (((t.d.rl.length : Nat) : Int))), (56, .bool false)] ∧ Mg w w1 (.obj g4 (.cells (u.d.cells u.ts.length).toArray 30) :: .obj g2 (.cells (t.d.cells t.ts.length).toArray 30) :: [])) _ ⟨0, rfl, ⟨Nat.zero_le _, rfl⟩, hA.keep _ ⟨rfl, rfl, rfl, rfl, rfl, rfl, rfl, rfl, rfl, rfl, rfl, rfl, rfl, rfl, rfl, rfl, rfl, rfl, rfl, rfl, rfl, rfl, rfl, rfl, rfl, rfl, rfl, rfl, rfl, rfl, rfl, rfl, rfl, rfl, rfl, rfl, rfl, rfl, rfl, rfl, rfl, rfl, rfl, rfl, rfl, rfl, rfl, rfl, rfl, rfl, rfl, rfl, rfl, rfl, rfl, rfl, trivial⟩, hM⟩ ?_
               clear hM hA
               rintro m_ a w34 ⟨j, rfl, hinv36, hA, hM⟩ K35 hK35
               obtain ⟨hi1, hin9⟩ := hinv36
               refine wp_seq_k (fun K37 hK37 => ?_)
               refine wp_seq_k (fun K38 hK38 => ?_)
               refine wp_region_lit ?_
               refine seq_do hA rfl rfl rfl (does_move rfl) ?_
               intro a hA
               refine seq_do (v := .pointer (some ⟨g2, 10, none⟩)) hA rfl rfl rfl (does_field LiS_fld_30_5 rfl rfl) ?_
               intro a hA
               refine seq_do hA rfl rfl rfl (m_load1 hM LiS_is1_28 rfl 1 rfl rfl) ?_
               intro a hA
               refine seq_do (v := .int .i64 (((t.ts.length : Nat) : Int))) hA rfl rfl rfl (does_len Tryz.underlying28 rfl) ?_
               intro a hA
               rcases Bool.eq_false_or_eq_true (decide (((j : Nat) : Int) < ((t.ts.length : Nat) : Int))) with hb39 | hb39
               · have hb39' := of_decide_eq_true hb39
                 refine seq_do (v := .bool true) hA rfl rfl rfl (does_bin rfl rfl (fun w => (bin_lss w).trans (by rw [hb39]))) ?_
                 intro a hA
                 refine seq_end ?_
                 refine hK38 _ _ ?_
                 refine wp_cond_true (hA.ev rfl) ?_
                 refine wp_skip ?_
                 refine hK37 _ _ ?_
                 refine wp_seq_k (fun K40 hK40 => ?_)
                 refine wp_block ?_
                 refine wp_seq_k (fun K41 hK41 => ?_)
                 obtain ⟨t1, bt1, ot1, it1, mt1, rt1_, lt1, Ht1⟩ := kidT ht (i := j) (by omega)
                 obtain ⟨u1, bu1, ou1, iu1, mu1, ru1_, lu1, Hu1⟩ := kidT hu (i := j) (by omega)
                 refine wp_draw (S := fun w1 => Mg w w1 (.obj g4 (.cells (u.d.cells u.ts.length).toArray 30) :: .obj g2 (.cells (t.d.cells t.ts.length).toArray 30) :: [])) (by kernel_rfl) ?_
                 replace hM := hM.drew
                 refine any_tk (v := .pointer (some ⟨g2, 10, none⟩)) hA 0 rfl rfl rfl rfl hP (hM.sub (.cons_cons _ (.cons_cons _ (List.nil_sublist _)))) (fun w1 hM => does_field LiS_fld_30_5 rfl rfl) ?_
                 intro a hA
                 refine any_tk hA 1 rfl rfl rfl rfl hP (hM.sub (.cons_cons _ (.cons_cons _ (List.nil_sublist _)))) (fun w1 hM => m_load1 hM LiS_is1_28 rfl 1 rfl rfl) ?_
                 intro a hA
                 refine any_tk hA 2 rfl rfl rfl rfl hP (hM.sub (.cons_cons _ (.cons_cons _ (List.nil_sublist _)))) (fun w1 hM => does_move rfl) ?_
                 intro a hA
                 refine any_tk (v := .pointer (some ⟨bt1, ot1 + j * 11, none⟩)) hA 3 rfl rfl rfl rfl hP (hM.sub (.cons_cons _ (.cons_cons _ (List.nil_sublist _)))) (fun w1 hM => does_indexD (k := j) Tryz.underlying28 (by kernel_rfl) rfl rfl rfl lt1 (by omega)) ?_
                 intro a hA
                 refine any_tk hA 4 rfl rfl rfl rfl hP (hM.sub (.cons_cons _ (.cons_cons _ (List.nil_sublist _)))) (fun w1 hM => m_loadHS hM Ht1 LiS_isS_30 rfl rfl) ?_
                 intro a hA
                 refine any_tk (v := .pointer (some ⟨g4, 10, none⟩)) hA 5 rfl rfl rfl rfl hP (hM.sub (.cons_cons _ (.cons_cons _ (List.nil_sublist _)))) (fun w1 hM => does_field LiS_fld_30_5 rfl rfl) ?_
                 intro a hA
                 refine any_tk hA 6 rfl rfl rfl rfl hP (hM.sub (.cons_cons _ (.cons_cons _ (List.nil_sublist _)))) (fun w1 hM => m_load1 hM LiS_is1_28 rfl 0 rfl rfl) ?_
                 intro a hA
                 refine any_tk hA 7 rfl rfl rfl rfl hP (hM.sub (.cons_cons _ (.cons_cons _ (List.nil_sublist _)))) (fun w1 hM => does_move rfl) ?_
                 intro a hA
                 refine any_tk (v := .pointer (some ⟨bu1, ou1 + j * 11, none⟩)) hA 8 rfl rfl rfl rfl hP (hM.sub (.cons_cons _ (.cons_cons _ (List.nil_sublist _)))) (fun w1 hM => does_indexD (k := j) Tryz.underlying28 (by kernel_rfl) rfl rfl rfl lu1 (by omega)) ?_
                 intro a hA
                 refine any_tk hA 9 rfl rfl rfl rfl hP (hM.sub (.cons_cons _ (.cons_cons _ (List.nil_sublist _)))) (fun w1 hM => m_loadHS hM Hu1 LiS_isS_30 rfl rfl) ?_
                 intro a hA
                 rcases Bool.eq_false_or_eq_true (sameT t1.tr u1.tr) with hb42 | hb42
                 · refine any_one (by kernel_rfl) (op_call hA 10 rfl rfl rfl rfl (enters_func rfl rfl (fun w => by kernel_rfl)) ((hb42 ▸ ih (by have := bulkT mt1; omega) (Dt.keep hM.bel _ rt1_) (Dt.keep hM.bel _ ru1_))) ?_)
                   rintro _ w44 ⟨rfl, hb43⟩
                   replace hM := hM.call hb43
                   refine ⟨_, rfl, (hM.sub (.cons_cons _ (.cons_cons _ (List.nil_sublist _)))), ?_⟩
                   intro a hA
                   refine any_tk (v := .bool false) hA 11 rfl rfl rfl rfl hP (hM.sub (.cons_cons _ (.cons_cons _ (List.nil_sublist _)))) (fun w1 hM => does_un rfl un_not) ?_
                   intro a hA
                   refine any_end (by kernel_rfl) ?_
                   refine hK41 _ _ ?_
                   refine wp_cond_false (hA.ev rfl) ?_
                   refine wp_skip ?_
                   refine hK40 _ _ ?_
                   refine wp_region_lit ?_
                   refine seq_do hA rfl rfl rfl (does_move rfl) ?_
                   intro a hA
                   refine seq_do (v := .int .i64 (((j + 1 : Nat) : Int))) hA rfl rfl rfl (does_bin rfl rfl (fun w => (bin_add (i64In (by omega) (by omega)) w).trans (by rw [show (((j : Nat) : Int) + 1 : Int) = ((j + 1 : Nat) : Int) from by omega]))) ?_
                   intro a hA
                   refine seq_do hA rfl rfl rfl (does_assign rfl) ?_
                   intro a hA
                   refine seq_end ?_
                   refine hK35 _ _ _ (by omega) ⟨j + 1, rfl, ⟨by omega, by rw [hin9, sameL_go it1 iu1, hb42, Bool.true_and]⟩, hA.keep _ ⟨rfl, rfl, rfl, rfl, rfl, rfl, rfl, rfl, rfl, rfl, rfl, rfl, rfl, rfl, rfl, rfl, rfl, rfl, rfl, rfl, rfl, rfl, rfl, rfl, rfl, rfl, rfl, rfl, rfl, rfl, rfl, rfl, rfl, rfl, rfl, rfl, rfl, rfl, rfl, rfl, rfl, rfl, rfl, rfl, rfl, rfl, rfl, rfl, rfl, rfl, rfl, rfl, rfl, rfl, rfl, rfl, trivial⟩, hM⟩
                 · refine any_one (by kernel_rfl) (op_call hA 10 rfl rfl rfl rfl (enters_func rfl rfl (fun w => by kernel_rfl)) ((hb42 ▸ ih (by have := bulkT mt1; omega) (Dt.keep hM.bel _ rt1_) (Dt.keep hM.bel _ ru1_))) ?_)
                   rintro _ w46 ⟨rfl, hb45⟩
                   replace hM := hM.call hb45
                   refine ⟨_, rfl, (hM.sub (.cons_cons _ (.cons_cons _ (List.nil_sublist _)))), ?_⟩
                   intro a hA
                   refine any_tk (v := .bool true) hA 11 rfl rfl rfl rfl hP (hM.sub (.cons_cons _ (.cons_cons _ (List.nil_sublist _)))) (fun w1 hM => does_un rfl un_not) ?_
                   intro a hA
                   refine any_end (by kernel_rfl) ?_
                   refine hK41 _ _ ?_
                   refine wp_cond_true (hA.ev rfl) ?_
                   refine wp_seq_k (fun K47 hK47 => ?_)
                   refine wp_region_lit ?_
                   refine seq_do hA rfl rfl rfl (does_assign rfl) ?_
                   intro a hA
                   refine seq_end ?_
                   refine hK47 _ _ ?_
                   refine wp_ret ?_
                   refine hret _ _ ?_
                   refine ends (v := .bool false) hA rfl (.cons (res_tmp rfl) .nil) rfl ?_
                   exact ⟨by rw [hsy, hin9, sameL_go it1 iu1, hb42]; rfl, hM.bel⟩
               · have hb39' := of_decide_eq_false hb39
                 refine seq_do (v := .bool false) hA rfl rfl rfl (does_bin rfl rfl (fun w => (bin_lss w).trans (by rw [hb39]))) ?_
                 intro a hA
                 refine seq_end ?_
                 refine hK38 _ _ ?_
                 refine wp_cond_false (hA.ev rfl) ?_
                 refine wp_exit ?_
                 refine hK32 _ _ ?_
                 refine wp_seq_k (fun K48 hK48 => ?_)
                 refine wp_region_lit ?_
                 refine seq_do hA rfl rfl rfl (does_assign rfl) ?_
                 intro a hA
                 refine seq_end ?_
                 refine hK48 _ _ ?_
                 refine wp_ret ?_
                 refine hret _ _ ?_
                 refine ends (v := .bool true) hA rfl (.cons (res_tmp rfl) .nil) rfl ?_
                 exact ⟨by rw [hsy, hin9, sameL_end (by omega)], hM.bel⟩
           · refine seq_call hA rfl rfl rfl (enters_func rfl rfl (fun w => by kernel_rfl)) (alikeD_any (Dt.keep hM.bel _ ht) (Dt.keep hM.bel _ hu) hb17) ?_
             rintro _ w50 ⟨rfl, hb49⟩
             replace hM := hM.call hb49
             refine ⟨_, rfl, ?_⟩
             intro a hA
             refine seq_do (v := .bool true) hA rfl rfl rfl (does_un rfl un_not) ?_
             intro a hA
             refine seq_do (v := .bool true) hA rfl rfl rfl (does_pick rfl rfl rfl rfl) ?_
             intro a hA
             refine seq_end ?_
             refine hK7 _ _ ?_
             refine wp_cond_true (hA.ev rfl) ?_
             refine wp_seq_k (fun K51 hK51 => ?_)
             refine wp_region_lit ?_
             refine seq_do hA rfl rfl rfl (does_assign rfl) ?_
             intro a hA
             refine seq_end ?_
             refine hK51 _ _ ?_
             refine wp_ret ?_
             refine hret _ _ ?_
             refine ends (v := .bool false) hA rfl (.cons (res_tmp rfl) .nil) rfl ?_
             exact ⟨by rw [same_no (.inr (.inr (.inr (.inr (.inr hb17)))))], hM.bel⟩
     · have hb12' := of_decide_eq_false hb12
       refine seq_do (v := .bool true) hA rfl rfl rfl (does_bin rfl rfl (fun w => (bin_neqS Tryz.underlying9 w).trans (by rw [hb12] <;> rfl))) ?_
       intro a hA
       refine seq_do (v := .bool true) hA rfl rfl rfl (does_pick rfl rfl rfl rfl) ?_
       intro a hA
       refine seq_do hA rfl rfl rfl (does_move rfl) ?_
       intro a hA
       refine seq_skip hA rfl rfl rfl ?_
       intro a hA
       refine seq_skip hA rfl rfl rfl ?_
       intro a hA
       refine seq_skip hA rfl rfl rfl ?_
       intro a hA
       refine seq_skip hA rfl rfl rfl ?_
       intro a hA
       refine seq_skip hA rfl rfl rfl ?_
       intro a hA
       refine seq_skip hA rfl rfl rfl ?_
       intro a hA
       refine seq_skip hA rfl rfl rfl ?_
       intro a hA
       refine seq_do (v := .bool true) hA rfl rfl rfl (does_pick rfl rfl rfl rfl) ?_
       intro a hA
       refine seq_do hA rfl rfl rfl (does_move rfl) ?_
       intro a hA
       refine seq_skip hA rfl rfl rfl ?_
       intro a hA
       refine seq_skip hA rfl rfl rfl ?_
       intro a hA
       refine seq_skip hA rfl rfl rfl ?_
       intro a hA
       refine seq_skip hA rfl rfl rfl ?_
       intro a hA
       refine seq_skip hA rfl rfl rfl ?_
       intro a hA
       refine seq_skip hA rfl rfl rfl ?_
       intro a hA
       refine seq_skip hA rfl rfl rfl ?_
       intro a hA
       refine seq_do (v := .bool true) hA rfl rfl rfl (does_pick rfl rfl rfl rfl) ?_
       intro a hA
       refine seq_do hA rfl rfl rfl (does_move rfl) ?_
       intro a hA
       refine seq_skip hA rfl rfl rfl ?_
       intro a hA
       refine seq_skip hA rfl rfl rfl ?_
       intro a hA
       refine seq_skip hA rfl rfl rfl ?_
       intro a hA
       refine seq_skip hA rfl rfl rfl ?_
       intro a hA
       refine seq_skip hA rfl rfl rfl ?_
       intro a hA
       refine seq_skip hA rfl rfl rfl ?_
       intro a hA
       refine seq_do (v := .bool true) hA rfl rfl rfl (does_pick rfl rfl rfl rfl) ?_
       intro a hA
       refine seq_end ?_
       refine hK7 _ _ ?_
       refine wp_cond_true (hA.ev rfl) ?_
       refine wp_seq_k (fun K52 hK52 => ?_)
       refine wp_region_lit ?_
       refine seq_do hA rfl rfl rfl (does_assign rfl) ?_
       intro a hA
       refine seq_end ?_
       refine hK52 _ _ ?_
       refine wp_ret ?_
       refine hret _ _ ?_
       refine ends (v := .bool false) hA rfl (.cons (res_tmp rfl) .nil) rfl ?_
       exact ⟨by rw [same_no (.inr (.inr (.inl hb12')))], hM.bel⟩
theorem rsames_all : ∀ n, RSames n
  | 0 => fun h => absurd h (Nat.not_lt_zero _)
  | n + 1 => rsames_step (rsames_all n)
theorem LiJ_is1_28 : Is1 Tryz.prog 28 := ⟨⟨_, Tryz.underlying28, rfl⟩, by kernel_rfl⟩
theorem LiJ_is1_3 : Is1 Tryz.prog 3 := ⟨⟨_, Tryz.underlying3, rfl⟩, by kernel_rfl⟩
theorem LiJ_fld_30_0 : FieldAt Tryz.prog 30 0 0 := ⟨_, _, Tryz.underlying30, rfl, rfl, by kernel_rfl⟩
theorem LiJ_fld_30_5 : FieldAt Tryz.prog 30 5 10 := ⟨_, _, Tryz.underlying30, rfl, rfl, by kernel_rfl⟩
theorem LiJ_isS_30 : IsS Tryz.prog 30 11 := ⟨⟨_, Tryz.underlying30⟩, by kernel_rfl⟩
theorem awake_any {w : World} (hT : Tabs8 w) : Calls Tryz.prog 12 #[] w fun e w' => e = .returned (.bool true) ∧ Below w.heap.size w w' := by
 have hM : Mg w w ([]) := Mg.start w
 refine walk_of (l := []) Tryz.func12 rfl Tryz.ntmps12 rfl rfl ?_
 intro Q hret hnorm hP a hA
 refine wp_seq_k (fun K1 hK1 => ?_)
 refine wp_region_lit ?_
 refine seq_do hA rfl rfl rfl (does_assign rfl) ?_
 intro a hA
 refine seq_end ?_
 refine hK1 _ _ ?_
 refine wp_seq_k (fun K2 hK2 => ?_)
 refine wp_region_lit ?_
 refine seq_do (v := .agg #[.int .i64 2, .int .i64 0, .bool false, .slice none 0 0, .slice none 0 0, .bool false, .slice none 0 0, .slice none 0 0, .string (⟨#[]⟩), .slice none 0 0, .slice none 0 0]) hA rfl rfl rfl (does_build rfl (fun w => by kernel_rfl)) ?_
 intro a hA
 refine seq_do (v := .agg #[.int .i64 10, .int .i64 0, .bool false, .slice none 0 0, .slice none 0 0, .bool false, .slice none 0 0, .slice none 0 0, .string (⟨#[]⟩), .slice none 0 0, .slice none 0 0]) hA rfl rfl rfl (does_build rfl (fun w => by kernel_rfl)) ?_
 intro a hA
 refine s_litE (e := 30) (sz := 11) (m := 2) (vs := cellsOf [bareD 2, bareD 10]) hA hM rfl rfl rfl (does_buildSlice rfl (by kernel_rfl)) rfl rfl (.inl (by decide)) ?_
 intro g3 w4 hM a hA
 refine seq_call hA rfl rfl rfl (enters_func rfl rfl (fun w => by kernel_rfl)) (of_any (ts := [bareD 2, bareD 10]) (rt_own (hM.has 0 rfl)).1 (two_bare _) (by decide) (hT.below hM.bel)) ?_
 rintro _ w6 ⟨x, rfl, ⟨hrx, -, htx⟩, hb5⟩
 have hbx := of_bulk [(bareD 2).tr, (bareD 10).tr]
 have hbx9 : Tr.bulks [(bareD 2).tr, (bareD 10).tr] = 2 := by rfl
 replace hM := hM.call hb5
 refine ⟨_, rfl, ?_⟩
 intro a hA
 have hB1 := hM.bel
 replace hT := hT.below hM.bel
 replace hM : Mg w6 w6 [] := Mg.start w6
 refine s_new (vs := [.int .i64 0, .int .i64 0, .bool false, .slice none 0 0, .slice none 0 0, .bool false, .slice none 0 0, .slice none 0 0, .string (⟨#[]⟩), .slice none 0 0, .slice none 0 0]) (t := 30) hA hM rfl rfl rfl (fun g => .pointer (some ⟨g, 0, none⟩)) (does_alloc (z := .agg #[.int .i64 0, .int .i64 0, .bool false, .slice none 0 0, .slice none 0 0, .bool false, .slice none 0 0, .slice none 0 0, .string (⟨#[]⟩), .slice none 0 0, .slice none 0 0]) (by kernel_rfl) rfl) (by decide) ?_
 intro g7 w8 hM a hA
 refine s_store (us := [.int .i64 x.d.k, .int .i64 x.d.n, .bool x.d.y.q.b1, .slice x.d.y.o1 x.d.y.q.t1.length x.d.y.c1, .slice x.d.y.o2 x.d.y.q.q1.length x.d.y.c2, .bool x.d.y.q.b2, .slice x.d.y.o3 x.d.y.q.t2.length x.d.y.c3, .slice x.d.y.o4 x.d.y.q.q2.length x.d.y.c4, .string x.d.s, .slice x.d.ro x.d.rl.length x.d.rc, .slice x.d.lo x.ts.length x.d.lc]) (L' := (.obj g7 (.cells (x.d.cells x.ts.length).toArray 30) :: [])) hA hM rfl rfl (m_store rfl rfl rfl (by kernel_rfl) hM 0 rfl rfl rfl) 0 rfl rfl rfl ?_
 intro w9 hM
 refine seq_end ?_
 refine hK2 _ _ ?_
 refine wp_seq_k (fun K10 hK10 => ?_)
 refine wp_region_lit ?_
 refine seq_do hA rfl rfl rfl (m_loadS hM LiJ_isS_30 rfl 0 rfl (cs := [.int .i64 x.d.k, .int .i64 x.d.n, .bool x.d.y.q.b1, .slice x.d.y.o1 x.d.y.q.t1.length x.d.y.c1, .slice x.d.y.o2 x.d.y.q.q1.length x.d.y.c2, .bool x.d.y.q.b2, .slice x.d.y.o3 x.d.y.q.t2.length x.d.y.c3, .slice x.d.y.o4 x.d.y.q.q2.length x.d.y.c4, .string x.d.s, .slice x.d.ro x.d.rl.length x.d.rc, .slice x.d.lo x.ts.length x.d.lc]) rfl rfl) ?_
 intro a hA
 refine seq_call hA rfl rfl rfl (enters_func rfl rfl (fun w => by kernel_rfl)) (reverse_any (t := x) (Dt.keep hM.bel _ hrx) (by have h9 : x.tr.bulk ≤ 6 := (by rw [htx]; show (ofS [(bareD 2).tr, (bareD 10).tr]).bulk ≤ 6; omega); omega) (hT.below hM.bel)) ?_
 rintro _ w12 ⟨r, kr, rfl, ⟨hrr, -, htr⟩, hb11⟩
 replace hM := hM.call hb11
 refine ⟨_, rfl, ?_⟩
 intro a hA
 have hB2 := hB1.trans (hM.bel.mono hB1.size)
 replace hT := hT.below hM.bel
 replace hrx := Dt.keep hM.bel _ hrx
 have hHg7 := hM.here 0 (cs := [.int .i64 x.d.k, .int .i64 x.d.n, .bool x.d.y.q.b1, .slice x.d.y.o1 x.d.y.q.t1.length x.d.y.c1, .slice x.d.y.o2 x.d.y.q.q1.length x.d.y.c2, .bool x.d.y.q.b2, .slice x.d.y.o3 x.d.y.q.t2.length x.d.y.c3, .slice x.d.y.o4 x.d.y.q.q2.length x.d.y.c4, .string x.d.s, .slice x.d.ro x.d.rl.length x.d.rc, .slice x.d.lo x.ts.length x.d.lc]) rfl
 replace hM : Mg w12 w12 [] := Mg.start w12
 refine seq_do hA rfl rfl rfl (does_move rfl) ?_
 intro a hA
 refine seq_do (v := .agg (r.d.cells r.ts.length).toArray) hA rfl rfl rfl (does_extract (vs := [.agg (r.d.cells r.ts.length).toArray, .int .i64 kr]) rfl rfl) ?_
 intro a hA
 refine seq_do (v := .int .i64 kr) hA rfl rfl rfl (does_extract (vs := [.agg (r.d.cells r.ts.length).toArray, .int .i64 kr]) rfl rfl) ?_
 intro a hA
 refine s_new (vs := [.int .i64 0, .int .i64 0, .bool false, .slice none 0 0, .slice none 0 0, .bool false, .slice none 0 0, .slice none 0 0, .string (⟨#[]⟩), .slice none 0 0, .slice none 0 0]) (t := 30) hA hM rfl rfl rfl (fun g => .pointer (some ⟨g, 0, none⟩)) (does_alloc (z := .agg #[.int .i64 0, .int .i64 0, .bool false, .slice none 0 0, .slice none 0 0, .bool false, .slice none 0 0, .slice none 0 0, .string (⟨#[]⟩), .slice none 0 0, .slice none 0 0]) (by kernel_rfl) rfl) (by decide) ?_
 intro g13 w14 hM a hA
 refine s_store (us := [.int .i64 r.d.k, .int .i64 r.d.n, .bool r.d.y.q.b1, .slice r.d.y.o1 r.d.y.q.t1.length r.d.y.c1, .slice r.d.y.o2 r.d.y.q.q1.length r.d.y.c2, .bool r.d.y.q.b2, .slice r.d.y.o3 r.d.y.q.t2.length r.d.y.c3, .slice r.d.y.o4 r.d.y.q.q2.length r.d.y.c4, .string r.d.s, .slice r.d.ro r.d.rl.length r.d.rc, .slice r.d.lo r.ts.length r.d.lc]) (L' := (.obj g13 (.cells (r.d.cells r.ts.length).toArray 30) :: [])) hA hM rfl rfl (m_store rfl rfl rfl (by kernel_rfl) hM 0 rfl rfl rfl) 0 rfl rfl rfl ?_
 intro w15 hM
 refine seq_do hA rfl rfl rfl (does_assign rfl) ?_
 intro a hA
 refine seq_end ?_
 refine hK10 _ _ ?_
 refine wp_seq_k (fun K16 hK16 => ?_)
 have e9 : (r.tr, kr) = (linkT [(bareD 10).tr, (bareD 2).tr] nilT, 0) := htr.trans (by rw [htx]; exact awake_of)
 obtain ⟨f1, f2, f3⟩ := pair_form (congrArg Prod.fst e9)
 have f4 : kr = 0 := congrArg Prod.snd e9
 obtain ⟨r0, br0, or0, ir0, mr0, rr0_, lr0, Hr0⟩ := kidT hrr (i := 0) (by omega)
 have f5 : r0.d.k = 10 := by rw [← tr_k, f3 _ ir0]; rfl
 refine wp_region_lit ?_
 refine seq_do hA rfl rfl rfl (does_move rfl) ?_
 intro a hA
 refine seq_do (v := .bool true) hA rfl rfl rfl (does_bin rfl rfl (fun w => (bin_eql w).trans (by rw [show ((kr == 0)) = true from (beq_iff_eq.2 f4)]))) ?_
 intro a hA
 refine seq_do hA rfl rfl rfl (does_move rfl) ?_
 intro a hA
 refine seq_do (v := .pointer (some ⟨g13, 0, none⟩)) hA rfl rfl rfl (does_field LiJ_fld_30_0 rfl rfl) ?_
 intro a hA
 refine seq_do hA rfl rfl rfl (m_load1 hM LiJ_is1_3 rfl 0 rfl rfl) ?_
 intro a hA
 refine seq_do (v := .bool true) hA rfl rfl rfl (does_bin rfl rfl (fun w => (bin_eql w).trans (by rw [show ((r.d.k == 8)) = true from (beq_iff_eq.2 f1)]))) ?_
 intro a hA
 refine seq_do (v := .bool true) hA rfl rfl rfl (does_pick rfl rfl rfl rfl) ?_
 intro a hA
 refine seq_do hA rfl rfl rfl (does_move rfl) ?_
 intro a hA
 refine seq_do (v := .pointer (some ⟨g13, 10, none⟩)) hA rfl rfl rfl (does_field LiJ_fld_30_5 rfl rfl) ?_
 intro a hA
 refine seq_do hA rfl rfl rfl (m_load1 hM LiJ_is1_28 rfl 0 rfl rfl) ?_
 intro a hA
 refine seq_do (v := .int .i64 (((r.ts.length : Nat) : Int))) hA rfl rfl rfl (does_len Tryz.underlying28 rfl) ?_
 intro a hA
 refine seq_do (v := .bool true) hA rfl rfl rfl (does_bin rfl rfl (fun w => (bin_eql w).trans (by rw [show ((((r.ts.length : Nat) : Int) == 2)) = true from (beq_iff_eq.2 (by omega))]))) ?_
 intro a hA
 refine seq_do (v := .bool true) hA rfl rfl rfl (does_pick rfl rfl rfl rfl) ?_
 intro a hA
 refine seq_do hA rfl rfl rfl (does_move rfl) ?_
 intro a hA
 refine seq_do (v := .pointer (some ⟨g13, 10, none⟩)) hA rfl rfl rfl (does_field LiJ_fld_30_5 rfl rfl) ?_
 intro a hA
 refine seq_do hA rfl rfl rfl (m_load1 hM LiJ_is1_28 rfl 0 rfl rfl) ?_
 intro a hA
 refine seq_do (v := .pointer (some ⟨br0, or0 + 0 * 11, none⟩)) hA rfl rfl rfl (does_indexD (k := 0) Tryz.underlying28 (by kernel_rfl) rfl rfl rfl lr0 (by omega)) ?_
 intro a hA
 refine seq_do (v := .pointer (some ⟨br0, or0 + 0 * 11, none⟩)) hA rfl rfl rfl (does_field LiJ_fld_30_0 rfl rfl) ?_
 intro a hA
 refine seq_do hA rfl rfl rfl (m_loadH (j := 0) hM Hr0 LiJ_is1_3 rfl rfl rfl) ?_
 intro a hA
 refine seq_do (v := .bool true) hA rfl rfl rfl (does_bin rfl rfl (fun w => (bin_eql w).trans (by rw [show ((r0.d.k == 10)) = true from (beq_iff_eq.2 f5)]))) ?_
 intro a hA
 refine seq_do (v := .bool true) hA rfl rfl rfl (does_pick rfl rfl rfl rfl) ?_
 intro a hA
 refine seq_do hA rfl rfl rfl (does_assign rfl) ?_
 intro a hA
 refine seq_end ?_
 refine hK16 _ _ ?_
 refine wp_ret ?_
 refine hret _ _ ?_
 refine ends (v := .bool true) hA rfl (.cons (res_tmp rfl) .nil) rfl ?_
 exact ⟨rfl, hB2.trans (hM.bel.mono hB2.size)⟩
theorem LiQ_is1_3 : Is1 Tryz.prog 3 := ⟨⟨_, Tryz.underlying3, rfl⟩, by kernel_rfl⟩
theorem LiQ_fld_30_0 : FieldAt Tryz.prog 30 0 0 := ⟨_, _, Tryz.underlying30, rfl, rfl, by kernel_rfl⟩
theorem LiQ_isS_30 : IsS Tryz.prog 30 11 := ⟨⟨_, Tryz.underlying30⟩, by kernel_rfl⟩
theorem items_any {w : World} {t : Dt} (ht : t.rd w) (hb : t.tr.bulk ≤ 300000000) (hT : Tabs8 w) : Calls Tryz.prog 20 #[.agg (t.d.cells t.ts.length).toArray] w fun e w' => ∃ so' ca' ys k, e = .returned (.tuple #[.slice so' (ys : List Dt).length ca', .int .i64 k]) ∧ ((ys.map Dt.tr, k) = itemS t.tr ∧ Rt w' so' ys ∧ (∀ x ∈ ys, x.rd w')) ∧ Below w.heap.size w w' := by
 have M : Mg w w ([]) := Mg.start w
 refine walk_of (l := [(0, .agg (t.d.cells t.ts.length).toArray)]) Tryz.func20 rfl Tryz.ntmps20 rfl rfl ?_
 intro Q hret hnorm hP a H
 refine wsk fun K1 hK1 => wrl (s_new (vs := [.int .i64 t.d.k, .int .i64 t.d.n, .bool t.d.y.q.b1, .slice t.d.y.o1 t.d.y.q.t1.length t.d.y.c1, .slice t.d.y.o2 t.d.y.q.q1.length t.d.y.c2, .bool t.d.y.q.b2, .slice t.d.y.o3 t.d.y.q.t2.length t.d.y.c3, .slice t.d.y.o4 t.d.y.q.q2.length t.d.y.c4, .string t.d.s, .slice t.d.ro t.d.rl.length t.d.rc, .slice t.d.lo t.ts.length t.d.lc]) (t := 30) H M rfl rfl rfl pg (does_box rfl rfl) (by decide) ?_)
 intro g2 w3 M a H
 iterate 2 refine sda H λa H↦?_
 refine seq_end (hK1 _ _ (wsk fun K4 hK4 => wrl (sdo H (m_loadS M LiQ_isS_30 rfl 0 rfl (cs := [.int .i64 t.d.k, .int .i64 t.d.n, .bool t.d.y.q.b1, .slice t.d.y.o1 t.d.y.q.t1.length t.d.y.c1, .slice t.d.y.o2 t.d.y.q.q1.length t.d.y.c2, .bool t.d.y.q.b2, .slice t.d.y.o3 t.d.y.q.t2.length t.d.y.c3, .slice t.d.y.o4 t.d.y.q.q2.length t.d.y.c4, .string t.d.s, .slice t.d.ro t.d.rl.length t.d.rc, .slice t.d.lo t.ts.length t.d.lc]) rfl rfl) λa H↦?_)))
 rcases tf (soundT shapeT t.tr) with hb5 | hb5
 ·
  rcases tf ((asList t.tr).isSome) with hb7 | hb7
  ·
   refine sct H (ef rfl rfl) (items_some M.bel ht (by omega) (hT.below M.bel) hb5 hb7) ?_
   rintro _ w9 ⟨so7, ca7, ys, rfl, ⟨hy1, hy2, hy3⟩, hM7⟩
   have hyb := asList_bulk hy1
   replace M : Mg w w9 (.row 30 11 (.slice so7 ys.length ca7) ys.length (cellsOf ys) :: .obj g2 (.cells (t.d.cells t.ts.length).toArray 30) :: []) := (M.both hM7 (noBld_cons (by simp) (noBld_quiet quietL_nil)) (noBld_cons (by simp) (noBld_quiet quietL_nil)))
   refine ⟨_, rfl, ?_⟩
   intro a H
   refine sdm H λa H↦?_
   iterate 2 refine sdo H (does_extract (vs := [.slice so7 ys.length ca7, .int .i64 0]) rfl rfl) λa H↦?_
   iterate 2 refine sda H λa H↦?_
   refine seq_end (hK4 _ _ (wsk fun K10 hK10 => wsk fun K11 hK11 => wrl (sdm H λa H↦?_)))
   refine sdo (v := .bool false) H (does_bin rfl rfl (fun w => by kernel_rfl)) λa H↦?_
   refine seq_end (hK11 _ _ (wp_cond_false (H.ev rfl) ?_))
   refine wp_skip (hK10 _ _ (wsk fun K12 hK12 => wrl (sdm H λa H↦?_)))
   refine sct H (ef rfl rfl) (callA_any (fun t _ => copies_all t) (rt_own (M.has 0 rfl)).1 (fun t ht => Dt.keep M.bel _ (hy2 t ht)) (by omega)) ?_
   rintro _ w13 ⟨v8, us, rfl, ⟨hu1, hu2⟩, hM8⟩
   obtain ⟨so8, ca8, rfl⟩ := owns_any (hM8.has 0 rfl)
   have hR8 := (rt_own (hM8.has 0 rfl)).1
   replace M := M.call hM8.bel
   refine ⟨_, rfl, ?_⟩
   intro a H
   iterate 2 refine sda H λa H↦?_
   refine seq_end (hK12 _ _ (wp_ret (hret _ _ (en2 H rfl (res_tmp rfl) (res_tmp rfl) ?_))))
   exact ⟨so8, ca8, us, 0, rfl, ⟨by rw [itemS_some hb5 hy1, hu1], hR8, fun x hx => (hu2 x hx).1⟩, M.bel⟩
  ·
   refine gcl H M (ef rfl rfl) (items_none M.bel ht (by omega) (hT.below M.bel) hb5 hb7) fun w15 hb14 M a H => ?_
   refine sdm H λa H↦?_
   iterate 2 refine sdo H (does_extract (vs := [.slice none 0 0, .int .i64 10]) rfl rfl) λa H↦?_
   iterate 2 refine sda H λa H↦?_
   refine seq_end (hK4 _ _ (wsk fun K16 hK16 => wsk fun K17 hK17 => wrl (sdm H λa H↦?_)))
   refine sdo (v := .bool true) H (does_bin rfl rfl (fun w => by kernel_rfl)) λa H↦?_
   refine seq_end (hK17 _ _ (wp_cond_true (H.ev rfl) ?_))
   refine wsk fun K18 hK18 => wrl (sdm H λa H↦?_)
   iterate 2 refine sda H λa H↦?_
   refine seq_end (hK18 _ _ (wp_ret (hret _ _ (en2 H rfl (res_tmp rfl) (res_tmp rfl) ?_))))
   exact ⟨none, 0, [], 10, rfl, ⟨(itemS_none hb5 (none_of hb7)).symm, (fun h => absurd rfl h), (fun x h => by cases h)⟩, M.bel⟩
 ·
  refine gcl H M (ef rfl rfl) (items_bad M.bel ht (by omega) (hT.below M.bel) hb5) fun w20 hb19 M a H => ?_
  refine sdm H λa H↦?_
  iterate 2 refine sdo H (does_extract (vs := [.slice none 0 0, .int .i64 2]) rfl rfl) λa H↦?_
  iterate 2 refine sda H λa H↦?_
  refine seq_end (hK4 _ _ (wsk fun K21 hK21 => wsk fun K22 hK22 => wrl (sdm H λa H↦?_)))
  refine sdo (v := .bool true) H (does_bin rfl rfl (fun w => by kernel_rfl)) λa H↦?_
  refine seq_end (hK22 _ _ (wp_cond_true (H.ev rfl) ?_))
  refine wsk fun K23 hK23 => wrl (sdm H λa H↦?_)
  iterate 2 refine sda H λa H↦?_
  refine seq_end (hK23 _ _ (wp_ret (hret _ _ (en2 H rfl (res_tmp rfl) (res_tmp rfl) ?_))))
  exact ⟨none, 0, [], 2, rfl, ⟨(itemS_bad hb5).symm, (fun h => absurd rfl h), (fun x h => by cases h)⟩, M.bel⟩
theorem sort_bad {w : World} {t : Dt} (ht : t.rd w) (hb : t.tr.bulk ≤ 300000000) (hT : Tabs8 w) (hs : soundT shapeT t.tr = false) : Calls Tryz.prog 14 #[.agg (t.d.cells t.ts.length).toArray] w fun e w' => ∃ (t2 : Dt) (k : Int), e = .returned (.tuple #[.agg (t2.d.cells t2.ts.length).toArray, .int .i64 k]) ∧ (t2.rd w' ∧ t2.at_ (w.heap.size ≤ ·) ∧ (t2.tr, k) = (zeroT, 2)) ∧ Below w.heap.size w w' := by
 have M : Mg w w ([]) := Mg.start w
 refine walk_of (l := [(0, .agg (t.d.cells t.ts.length).toArray)]) Tryz.func14 rfl Tryz.ntmps14 rfl rfl ?_
 intro Q hret hnorm hP a H
 refine wsk fun K1 hK1 => wrl (s_new (vs := [.int .i64 t.d.k, .int .i64 t.d.n, .bool t.d.y.q.b1, .slice t.d.y.o1 t.d.y.q.t1.length t.d.y.c1, .slice t.d.y.o2 t.d.y.q.q1.length t.d.y.c2, .bool t.d.y.q.b2, .slice t.d.y.o3 t.d.y.q.t2.length t.d.y.c3, .slice t.d.y.o4 t.d.y.q.q2.length t.d.y.c4, .string t.d.s, .slice t.d.ro t.d.rl.length t.d.rc, .slice t.d.lo t.ts.length t.d.lc]) (t := 30) H M rfl rfl rfl pg (does_box rfl rfl) (by decide) ?_)
 intro g2 w3 M a H
 refine s_new (vs := [.int .i64 0, .int .i64 0, .bool false, .slice none 0 0, .slice none 0 0, .bool false, .slice none 0 0, .slice none 0 0, .string (⟨#[]⟩), .slice none 0 0, .slice none 0 0]) (t := 30) H M rfl rfl rfl pg (does_alloc (z := .agg #[.int .i64 0, .int .i64 0, .bool false, .slice none 0 0, .slice none 0 0, .bool false, .slice none 0 0, .slice none 0 0, .string (⟨#[]⟩), .slice none 0 0, .slice none 0 0]) (by kernel_rfl) rfl) (by decide) ?_
 intro g4 w5 M a H
 refine sda H λa H↦?_
 refine seq_end (hK1 _ _ (wsk fun K6 hK6 => wrl (sdo H (m_loadS M LiQ_isS_30 rfl 1 rfl (cs := [.int .i64 t.d.k, .int .i64 t.d.n, .bool t.d.y.q.b1, .slice t.d.y.o1 t.d.y.q.t1.length t.d.y.c1, .slice t.d.y.o2 t.d.y.q.q1.length t.d.y.c2, .bool t.d.y.q.b2, .slice t.d.y.o3 t.d.y.q.t2.length t.d.y.c3, .slice t.d.y.o4 t.d.y.q.q2.length t.d.y.c4, .string t.d.s, .slice t.d.ro t.d.rl.length t.d.rc, .slice t.d.lo t.ts.length t.d.lc]) rfl rfl) λa H↦?_)))
 refine gcl H M (ef rfl rfl) (items_bad M.bel ht (by omega) (hT.below M.bel) hs) fun w8 hb7 M a H => ?_
 refine sdm H λa H↦?_
 iterate 2 refine sdo H (does_extract (vs := [.slice none 0 0, .int .i64 2]) rfl rfl) λa H↦?_
 iterate 2 refine sda H λa H↦?_
 refine seq_end (hK6 _ _ (wsk fun K9 hK9 => wsk fun K10 hK10 => wrl (sdm H λa H↦?_)))
 refine sdo (v := .bool true) H (does_bin rfl rfl (fun w => by kernel_rfl)) λa H↦?_
 refine seq_end (hK10 _ _ (wp_cond_true (H.ev rfl) ?_))
 refine wsk fun K11 hK11 => wrl (sdo (v := .agg #[.int .i64 0, .int .i64 0, .bool false, .slice none 0 0, .slice none 0 0, .bool false, .slice none 0 0, .slice none 0 0, .string (⟨#[]⟩), .slice none 0 0, .slice none 0 0]) H (does_build rfl (fun w => by kernel_rfl)) λa H↦?_)
 refine sdm H λa H↦?_
 refine s_store (us := [.int .i64 0, .int .i64 0, .bool false, .slice none 0 0, .slice none 0 0, .bool false, .slice none 0 0, .slice none 0 0, .string (⟨#[]⟩), .slice none 0 0, .slice none 0 0]) (L' := (.obj g4 (.cells #[.int .i64 0, .int .i64 0, .bool false, .slice none 0 0, .slice none 0 0, .bool false, .slice none 0 0, .slice none 0 0, .string (⟨#[]⟩), .slice none 0 0, .slice none 0 0] 30) :: .obj g2 (.cells (t.d.cells t.ts.length).toArray 30) :: [])) H M rfl rfl (m_store rfl rfl rfl (by kernel_rfl) M 0 rfl rfl rfl) 0 rfl rfl rfl ?_
 intro w12 M
 refine sda H λa H↦?_
 refine seq_end (hK11 _ _ (wp_ret (hret _ _ (en2 H rfl (res_cellS M LiQ_isS_30 rfl 0 rfl (cs := [.int .i64 0, .int .i64 0, .bool false, .slice none 0 0, .slice none 0 0, .bool false, .slice none 0 0, .slice none 0 0, .string (⟨#[]⟩), .slice none 0 0, .slice none 0 0]) rfl rfl) (res_tmp rfl) ?_))))
 exact ⟨zeroD, 2, rfl, ⟨zeroD_rd _, zeroD_at _, by rw [zeroD_tr]⟩, M.bel⟩
theorem nodesL_perm {xs ys : List Tr} (h : xs.Perm ys) : nodesL xs = nodesL ys := by
 induction h with
 | nil => rfl
 | cons x _ ih => rw [nodesL, nodesL, ih]
 | swap x y l => rw [nodesL, nodesL, nodesL, nodesL]; omega
 | trans _ _ h1 h2 => rw [h1, h2]
theorem okL_perm {A B : List Tr} (h : A.Perm B) (H : OkL A) : OkL B := H.of (fun x hx => h.mem_iff.2 hx) (by rw [nodesL_perm h, h.length_eq]; exact Nat.le_refl _)
theorem cnt_yes {l : List Dt} {y : Tr} {j c : Nat} {t : Dt} (h : l[j]? = some t) (hm : c = (l.take j).countP fun z => equT z.tr y) (e : equT t.tr y = true) : c + 1 = (l.take (j + 1)).countP fun z => equT z.tr y := by
 rw [List.take_add_one, h, List.countP_append, ← hm]
 show c + 1 = c + List.countP _ [t]
 rw [List.countP_cons_of_pos (by exact e)]
 rfl
theorem cnt_no {l : List Dt} {y : Tr} {j c : Nat} {t : Dt} (h : l[j]? = some t) (hm : c = (l.take j).countP fun z => equT z.tr y) (e : equT t.tr y = false) : c = (l.take (j + 1)).countP fun z => equT z.tr y := by
 rw [List.take_add_one, h, List.countP_append, ← hm]
 show c = c + List.countP _ [t]
 rw [List.countP_cons_of_neg (by rw [e]; decide)]
 rfl
theorem cnt_len (l : List Dt) (p : Dt → Bool) (j : Nat) : (l.take j).countP p ≤ l.length := Nat.le_trans List.countP_le_length (by rw [List.length_take]; omega)
theorem cnt_end {l m : List Dt} {y : Tr} {j c e : Nat} (h : l.map Dt.tr = isort ltO (m.map Dt.tr)) (hl : l.length = m.length) (hj : l.length ≤ j) (h1 : c = (l.take j).countP fun z => equT z.tr y) (h2 : e = (m.take j).countP fun z => equT z.tr y) : c = e := by
 rw [List.take_of_length_le hj] at h1
 rw [List.take_of_length_le (by omega)] at h2
 have h3 := isort_count (lt := ltO) (fun z => equT z y) (m.map Dt.tr)
 rw [← h, List.countP_map, List.countP_map] at h3
 rw [h1, h2]
 exact h3
theorem order_next {l : List Dt} {X : List Tr} {i j : Nat} {t u : Dt} (h : l.map Dt.tr = isort ltO X) (hX : ∀ z ∈ X, soundT shapeT z = true) (hi : l[i]? = some t) (hj : l[j]? = some u) (he : i + 1 = j) : ¬ 0 < cmpT t.tr u.tr := by
 subst he
 have h1 : (isort ltO X)[i]? = some t.tr := by rw [← h, List.getElem?_map, hi]; rfl
 have h2 : (isort ltO X)[i + 1]? = some u.tr := by rw [← h, List.getElem?_map, hj]; rfl
 have h3 := of_decide_eq_false (up_next (isort_up ltO_swo X) h1 h2)
 have m1 := hX _ ((isort_perm X).mem_iff.1 (List.mem_of_getElem? h1))
 have m2 := hX _ ((isort_perm X).mem_iff.1 (List.mem_of_getElem? h2))
 rw [cmpT_ok m1 m2]
 have := ordT_turn t.tr u.tr
 omega
theorem shape0 {w : World} {t : Dt} (hk0 : t.d.k = 0) : Calls Tryz.prog 65 #[.agg (t.d.cells t.ts.length).toArray] w fun e w' => e = .returned (.bool false) ∧ Below w.heap.size w w' := by
 have M : Mg w w ([]) := Mg.start w
 refine walk_of (l := [(0, .agg (t.d.cells t.ts.length).toArray)]) Tryz.func65 rfl Tryz.ntmps65 rfl rfl ?_
 intro Q hret hnorm hP a H
 refine wsk fun K1 hK1 => wrl (s_new (vs := [.int .i64 t.d.k, .int .i64 t.d.n, .bool t.d.y.q.b1, .slice t.d.y.o1 t.d.y.q.t1.length t.d.y.c1, .slice t.d.y.o2 t.d.y.q.q1.length t.d.y.c2, .bool t.d.y.q.b2, .slice t.d.y.o3 t.d.y.q.t2.length t.d.y.c3, .slice t.d.y.o4 t.d.y.q.q2.length t.d.y.c4, .string t.d.s, .slice t.d.ro t.d.rl.length t.d.rc, .slice t.d.lo t.ts.length t.d.lc]) (t := 30) H M rfl rfl rfl pg (does_box rfl rfl) (by decide) ?_)
 intro g2 w3 M a H
 refine sda H λa H↦?_
 refine seq_end (hK1 _ _ (wsk fun K4 hK4 => wsk fun K5 hK5 => wrl (sdo (v := .pointer (some ⟨g2, 0, none⟩)) H (does_field LiQ_fld_30_0 rfl rfl) λa H↦?_)))
 refine sdo H (m_load1 M LiQ_is1_3 rfl 0 rfl rfl) λa H↦?_
 refine sdo (v := .bool true) H (does_bin rfl rfl (fun w => (bin_lss w).trans (by rw [show (decide (t.d.k < 1)) = true from (decide_eq_true (by omega))]))) λa H↦?_
 refine sdm H λa H↦?_
 iterate 3 refine seq_skip H rfl rfl rfl λa H↦?_
 refine sdk (v := .bool true) H λa H↦?_
 refine sdm H λa H↦?_
 iterate 4 refine seq_skip H rfl rfl rfl λa H↦?_
 refine sdk (v := .bool true) H λa H↦?_
 refine seq_end (hK5 _ _ (wp_cond_true (H.ev rfl) ?_))
 refine wsk fun K6 hK6 => wrl (sda H λa H↦?_)
 refine seq_end (hK6 _ _ (wp_ret (hret _ _ (en1 H rfl (res_tmp rfl) ?_))))
 exact ⟨rfl, M.bel⟩
theorem count0 {w : World} {t : Dt} (hk0 : t.d.k = 0) : Calls Tryz.prog 44 #[.agg (t.d.cells t.ts.length).toArray, .int .i64 1, .int .i64 20000] w fun e w' => e = .returned (.int .i64 (-1)) ∧ Below w.heap.size w w' := by
 have M : Mg w w ([]) := Mg.start w
 refine walk_of (l := [(0, .agg (t.d.cells t.ts.length).toArray), (1, .int .i64 1), (2, .int .i64 20000)]) Tryz.func44 rfl Tryz.ntmps44 rfl rfl ?_
 intro Q hret hnorm hP a H
 refine wsk fun K1 hK1 => wrl (s_new (vs := [.int .i64 t.d.k, .int .i64 t.d.n, .bool t.d.y.q.b1, .slice t.d.y.o1 t.d.y.q.t1.length t.d.y.c1, .slice t.d.y.o2 t.d.y.q.q1.length t.d.y.c2, .bool t.d.y.q.b2, .slice t.d.y.o3 t.d.y.q.t2.length t.d.y.c3, .slice t.d.y.o4 t.d.y.q.q2.length t.d.y.c4, .string t.d.s, .slice t.d.ro t.d.rl.length t.d.rc, .slice t.d.lo t.ts.length t.d.lc]) (t := 30) H M rfl rfl rfl pg (does_box rfl rfl) (by decide) ?_)
 intro g2 w3 M a H
 refine sda H λa H↦?_
 refine seq_end (hK1 _ _ (wsk fun K4 hK4 => wsk fun K5 hK5 => wrl (sdm H λa H↦?_)))
 refine sdo (v := .bool false) H (does_bin rfl rfl (fun w => by kernel_rfl)) λa H↦?_
 iterate 2 refine sdm H λa H↦?_
 refine sdo (v := .bool false) H (does_bin rfl rfl (fun w => by kernel_rfl)) λa H↦?_
 refine sdk (v := .bool false) H λa H↦?_
 refine sdm H λa H↦?_
 refine sdo H (m_loadS M LiQ_isS_30 rfl 0 rfl (cs := [.int .i64 t.d.k, .int .i64 t.d.n, .bool t.d.y.q.b1, .slice t.d.y.o1 t.d.y.q.t1.length t.d.y.c1, .slice t.d.y.o2 t.d.y.q.q1.length t.d.y.c2, .bool t.d.y.q.b2, .slice t.d.y.o3 t.d.y.q.t2.length t.d.y.c3, .slice t.d.y.o4 t.d.y.q.q2.length t.d.y.c4, .string t.d.s, .slice t.d.ro t.d.rl.length t.d.rc, .slice t.d.lo t.ts.length t.d.lc]) rfl rfl) λa H↦?_
 refine gcl H M (ef rfl rfl) (shape0 hk0) fun w7 hb6 M a H => ?_
 refine sdo (v := .bool true) H (does_un rfl un_not) λa H↦?_
 refine sdk (v := .bool true) H λa H↦?_
 refine seq_end (hK5 _ _ (wp_cond_true (H.ev rfl) ?_))
 refine wsk fun K8 hK8 => wrl (sda H λa H↦?_)
 refine seq_end (hK8 _ _ (wp_ret (hret _ _ (en1 H rfl (res_tmp rfl) ?_))))
 exact ⟨rfl, M.bel⟩
theorem sound0 {w : World} {t : Dt} (hk0 : t.d.k = 0) : Calls Tryz.prog 19 #[.agg (t.d.cells t.ts.length).toArray] w fun e w' => e = .returned (.bool false) ∧ Below w.heap.size w w' := by
 have M : Mg w w ([]) := Mg.start w
 refine walk_of (l := [(0, .agg (t.d.cells t.ts.length).toArray)]) Tryz.func19 rfl Tryz.ntmps19 rfl rfl ?_
 intro Q hret hnorm hP a H
 refine wsk fun K1 hK1 => wrl (s_new (vs := [.int .i64 t.d.k, .int .i64 t.d.n, .bool t.d.y.q.b1, .slice t.d.y.o1 t.d.y.q.t1.length t.d.y.c1, .slice t.d.y.o2 t.d.y.q.q1.length t.d.y.c2, .bool t.d.y.q.b2, .slice t.d.y.o3 t.d.y.q.t2.length t.d.y.c3, .slice t.d.y.o4 t.d.y.q.q2.length t.d.y.c4, .string t.d.s, .slice t.d.ro t.d.rl.length t.d.rc, .slice t.d.lo t.ts.length t.d.lc]) (t := 30) H M rfl rfl rfl pg (does_box rfl rfl) (by decide) ?_)
 intro g2 w3 M a H
 refine sda H λa H↦?_
 refine seq_end (hK1 _ _ (wsk fun K4 hK4 => wrl (sdo H (m_loadS M LiQ_isS_30 rfl 0 rfl (cs := [.int .i64 t.d.k, .int .i64 t.d.n, .bool t.d.y.q.b1, .slice t.d.y.o1 t.d.y.q.t1.length t.d.y.c1, .slice t.d.y.o2 t.d.y.q.q1.length t.d.y.c2, .bool t.d.y.q.b2, .slice t.d.y.o3 t.d.y.q.t2.length t.d.y.c3, .slice t.d.y.o4 t.d.y.q.q2.length t.d.y.c4, .string t.d.s, .slice t.d.ro t.d.rl.length t.d.rc, .slice t.d.lo t.ts.length t.d.lc]) rfl rfl) λa H↦?_)))
 refine gcl H M (ef rfl rfl) (count0 hk0) fun w6 hb5 M a H => ?_
 refine sdo (v := .bool false) H (does_bin rfl rfl (fun w => (bin_geq w).trans (by rw [show (decide (0 ≤ (-1))) = false from (decide_eq_false (by omega))]))) λa H↦?_
 refine sda H λa H↦?_
 refine seq_end (hK4 _ _ (wp_ret (hret _ _ (en1 H rfl (res_tmp rfl) ?_))))
 exact ⟨rfl, M.bel⟩
theorem ofS_no {A : List Tr} {t : Dt} (ht : t.tr = ofS A) (h : soundT shapeT t.tr = false) : t.d.k = 0 := by
 rw [← tr_k]
 by_cases hc : soundT shapeT (linkT A nilT) = true
 ·
  rw [ht, ofS_yes ((okL_iff A).1 hc), hc] at h; cases h
 ·
  rw [ht]; unfold ofS; rw [fitS_no (Bool.eq_false_iff.2 hc)]; rfl
set_option maxHeartbeats 2000000 in
theorem listsOrder_any {w : World} {si : Option Addr} {ca : Nat} {ts : List Dt} (hR : Rt w si ts) (hca : ts.length ≤ ca) (hD : ∀ t ∈ ts, t.rd w) {x : Dt} (hrx : x.rd w) (hT : Tabs8 w) (hb : Tr.bulks (ts.map Dt.tr) ≤ 1048576) : Calls Tryz.prog 5 #[.slice si ts.length ca, .agg (x.d.cells x.ts.length).toArray] w fun e w' => e = .returned (.bool true) ∧ Below w.heap.size w w' := by
 have hbl := bulks_len ts
 have M : Mg w w ([]) := Mg.start w
 refine walk_of (l := [(0, .slice si ts.length ca), (1, .agg (x.d.cells x.ts.length).toArray)]) Tryz.func5 rfl Tryz.ntmps5 rfl rfl ?_
 intro Q hret hnorm hP a H
 refine wsk fun K1 hK1 => wrl (s_new (vs := [.int .i64 x.d.k, .int .i64 x.d.n, .bool x.d.y.q.b1, .slice x.d.y.o1 x.d.y.q.t1.length x.d.y.c1, .slice x.d.y.o2 x.d.y.q.q1.length x.d.y.c2, .bool x.d.y.q.b2, .slice x.d.y.o3 x.d.y.q.t2.length x.d.y.c3, .slice x.d.y.o4 x.d.y.q.q2.length x.d.y.c4, .string x.d.s, .slice x.d.ro x.d.rl.length x.d.rc, .slice x.d.lo x.ts.length x.d.lc]) (t := 30) H M rfl rfl rfl pg (does_box rfl rfl) (by decide) ?_)
 intro g2 w3 M a H
 refine sda H λa H↦?_
 refine seq_end (hK1 _ _ (wsk fun K4 hK4 => ?_))
 have hJ5 : ∀ a w1, (∃ (xs : List Dt), (Rt w si xs ∧ (∀ t ∈ xs, t.rd w) ∧ Tr.bulks (xs.map Dt.tr) ≤ 1048576 ∧ xs.length ≤ 300) ∧ Sl a 136 [(0, .slice si xs.length ca), (1, .agg (x.d.cells x.ts.length).toArray), (3, .pointer (some ⟨g2, 0, none⟩)), (4, .bool false)] ∧ Mg w w1 (.obj g2 (.cells (x.d.cells x.ts.length).toArray 30) :: [])) → K4 a w1 := by
  clear H M
  rintro a w6 ⟨xs, hf7, H, M⟩
  obtain ⟨hRx, hDx, hxb, hlx⟩ := hf7
  refine hK4 _ _ (wsk fun K8 hK8 => ?_)
  have hnb : nilT.bulk = 1 := rfl
  have hlb := bulks_len xs
  refine wrl (sdm H λa H↦?_)
  refine sct H (ef rfl rfl) (of_any (hRx.below M.bel) (fun t ht => Dt.keep M.bel _ (hDx t ht)) (by omega) (hT.below M.bel)) ?_
  rintro _ w10 ⟨d, rfl, ⟨hrd, -, htd⟩, hb9⟩
  have hdb := of_bulk (xs.map Dt.tr)
  rw [← htd] at hdb
  replace M := M.call hb9
  refine ⟨_, rfl, ?_⟩
  intro a H
  have hB1 := M.bel
  replace hT := hT.below M.bel
  replace hRx := hRx.below M.bel
  replace hDx := fun t ht => Dt.keep M.bel _ (hDx t ht)
  replace hrx := Dt.keep M.bel _ hrx
  have hHg2 := M.here 0 (cs := [.int .i64 x.d.k, .int .i64 x.d.n, .bool x.d.y.q.b1, .slice x.d.y.o1 x.d.y.q.t1.length x.d.y.c1, .slice x.d.y.o2 x.d.y.q.q1.length x.d.y.c2, .bool x.d.y.q.b2, .slice x.d.y.o3 x.d.y.q.t2.length x.d.y.c3, .slice x.d.y.o4 x.d.y.q.q2.length x.d.y.c4, .string x.d.s, .slice x.d.ro x.d.rl.length x.d.rc, .slice x.d.lo x.ts.length x.d.lc]) rfl
  replace M : Mg w10 w10 [] := Mg.start w10
  refine s_new (vs := [.int .i64 0, .int .i64 0, .bool false, .slice none 0 0, .slice none 0 0, .bool false, .slice none 0 0, .slice none 0 0, .string (⟨#[]⟩), .slice none 0 0, .slice none 0 0]) (t := 30) H M rfl rfl rfl pg (does_alloc (z := .agg #[.int .i64 0, .int .i64 0, .bool false, .slice none 0 0, .slice none 0 0, .bool false, .slice none 0 0, .slice none 0 0, .string (⟨#[]⟩), .slice none 0 0, .slice none 0 0]) (by kernel_rfl) rfl) (by decide) ?_
  intro g11 w12 M a H
  refine s_store (us := [.int .i64 d.d.k, .int .i64 d.d.n, .bool d.d.y.q.b1, .slice d.d.y.o1 d.d.y.q.t1.length d.d.y.c1, .slice d.d.y.o2 d.d.y.q.q1.length d.d.y.c2, .bool d.d.y.q.b2, .slice d.d.y.o3 d.d.y.q.t2.length d.d.y.c3, .slice d.d.y.o4 d.d.y.q.q2.length d.d.y.c4, .string d.d.s, .slice d.d.ro d.d.rl.length d.d.rc, .slice d.d.lo d.ts.length d.d.lc]) (L' := (.obj g11 (.cells (d.d.cells d.ts.length).toArray 30) :: [])) H M rfl rfl (m_store rfl rfl rfl (by kernel_rfl) M 0 rfl rfl rfl) 0 rfl rfl rfl ?_
  intro w13 M
  refine seq_end (hK8 _ _ (wsk fun K14 hK14 => wrl (sdo H (m_loadS M LiQ_isS_30 rfl 0 rfl (cs := [.int .i64 d.d.k, .int .i64 d.d.n, .bool d.d.y.q.b1, .slice d.d.y.o1 d.d.y.q.t1.length d.d.y.c1, .slice d.d.y.o2 d.d.y.q.q1.length d.d.y.c2, .bool d.d.y.q.b2, .slice d.d.y.o3 d.d.y.q.t2.length d.d.y.c3, .slice d.d.y.o4 d.d.y.q.q2.length d.d.y.c4, .string d.d.s, .slice d.d.ro d.d.rl.length d.d.rc, .slice d.d.lo d.ts.length d.d.lc]) rfl rfl) λa H↦?_)))
  rcases tf (soundT shapeT d.tr) with hb15 | hb15
  ·
   have hOd := ofS_sound (by rw [← htd]; exact hb15)
   have hO := hOd.1
   have hde : d.tr = linkT (xs.map Dt.tr) nilT := htd.trans hOd.2
   have hXs : ∀ z ∈ (xs.map Dt.tr), soundT shapeT z = true := item_sound (by rw [hde]; exact asList_link _) hb15
   refine sct H (ef rfl rfl) (sort_any (t := d) (Dt.keep M.bel _ hrd) (by omega) (hT.below M.bel) hb15 (by rw [hde]; exact asList_link _)) ?_
   rintro _ w17 ⟨s, ks, rfl, ⟨hrs, -, hts⟩, hb16⟩
   have hse : s.tr = linkT (isort ltO (xs.map Dt.tr)) nilT := congrArg Prod.fst hts
   have hks : ks = 0 := congrArg Prod.snd hts
   have hSo : OkL (isort ltO (xs.map Dt.tr)) := okL_perm (isort_perm _).symm hO
   have hsb : s.tr.bulk ≤ 3000000 := by rw [hse, link_bulk, bulks_perm (isort_perm _), isort_len, List.length_map]; omega
   replace M := M.call hb16
   refine ⟨_, rfl, ?_⟩
   intro a H
   have hB2 := hB1.trans (M.bel.mono hB1.size)
   replace hT := hT.below M.bel
   replace hHg2 := hHg2.below M.bel
   replace hRx := hRx.below M.bel
   replace hDx := fun t ht => Dt.keep M.bel _ (hDx t ht)
   replace hrx := Dt.keep M.bel _ hrx
   replace hrd := Dt.keep M.bel _ hrd
   have hHg11 := M.here 0 (cs := [.int .i64 d.d.k, .int .i64 d.d.n, .bool d.d.y.q.b1, .slice d.d.y.o1 d.d.y.q.t1.length d.d.y.c1, .slice d.d.y.o2 d.d.y.q.q1.length d.d.y.c2, .bool d.d.y.q.b2, .slice d.d.y.o3 d.d.y.q.t2.length d.d.y.c3, .slice d.d.y.o4 d.d.y.q.q2.length d.d.y.c4, .string d.d.s, .slice d.d.ro d.d.rl.length d.d.rc, .slice d.d.lo d.ts.length d.d.lc]) rfl
   replace M : Mg w17 w17 [] := Mg.start w17
   refine sdm H λa H↦?_
   iterate 2 refine sdo H (does_extract (vs := [.agg (s.d.cells s.ts.length).toArray, .int .i64 ks]) rfl rfl) λa H↦?_
   refine s_new (vs := [.int .i64 0, .int .i64 0, .bool false, .slice none 0 0, .slice none 0 0, .bool false, .slice none 0 0, .slice none 0 0, .string (⟨#[]⟩), .slice none 0 0, .slice none 0 0]) (t := 30) H M rfl rfl rfl pg (does_alloc (z := .agg #[.int .i64 0, .int .i64 0, .bool false, .slice none 0 0, .slice none 0 0, .bool false, .slice none 0 0, .slice none 0 0, .string (⟨#[]⟩), .slice none 0 0, .slice none 0 0]) (by kernel_rfl) rfl) (by decide) ?_
   intro g18 w19 M a H
   refine s_store (us := [.int .i64 s.d.k, .int .i64 s.d.n, .bool s.d.y.q.b1, .slice s.d.y.o1 s.d.y.q.t1.length s.d.y.c1, .slice s.d.y.o2 s.d.y.q.q1.length s.d.y.c2, .bool s.d.y.q.b2, .slice s.d.y.o3 s.d.y.q.t2.length s.d.y.c3, .slice s.d.y.o4 s.d.y.q.q2.length s.d.y.c4, .string s.d.s, .slice s.d.ro s.d.rl.length s.d.rc, .slice s.d.lo s.ts.length s.d.lc]) (L' := (.obj g18 (.cells (s.d.cells s.ts.length).toArray 30) :: [])) H M rfl rfl (m_store rfl rfl rfl (by kernel_rfl) M 0 rfl rfl rfl) 0 rfl rfl rfl ?_
   intro w20 M
   refine sda H λa H↦?_
   refine seq_end (hK14 _ _ (wsk fun K21 hK21 => wsk fun K22 hK22 => wrl (sct H (ef rfl rfl) (awake_any (hT.below M.bel)) ?_)))
   rintro _ w24 ⟨rfl, hb23⟩
   replace M := M.call hb23
   refine ⟨_, rfl, ?_⟩
   intro a H
   refine sdo (v := .bool false) H (does_un rfl un_not) λa H↦?_
   iterate 2 refine sdm H λa H↦?_
   refine sdo (v := .bool false) H (does_bin rfl rfl (fun w => (bin_neq w).trans (by rw [show ((ks != 0)) = false from (bne_eq_false_iff_eq.2 hks)]))) λa H↦?_
   refine sdk (v := .bool false) H λa H↦?_
   refine seq_end (hK22 _ _ (wp_cond_false (H.ev rfl) ?_))
   refine wp_skip (hK21 _ _ (wsk fun K25 hK25 => wrl (sdo H (m_loadS M LiQ_isS_30 rfl 0 rfl (cs := [.int .i64 s.d.k, .int .i64 s.d.n, .bool s.d.y.q.b1, .slice s.d.y.o1 s.d.y.q.t1.length s.d.y.c1, .slice s.d.y.o2 s.d.y.q.q1.length s.d.y.c2, .bool s.d.y.q.b2, .slice s.d.y.o3 s.d.y.q.t2.length s.d.y.c3, .slice s.d.y.o4 s.d.y.q.q2.length s.d.y.c4, .string s.d.s, .slice s.d.ro s.d.rl.length s.d.rc, .slice s.d.lo s.ts.length s.d.lc]) rfl rfl) λa H↦?_)))
   refine sct H (ef rfl rfl) (items_any (t := s) (Dt.keep M.bel _ hrs) (by omega) (hT.below M.bel)) ?_
   rintro _ w27 ⟨sv, cv, lv, kv, rfl, ⟨htv, hRv, hDv⟩, hb26⟩
   have hvp : (lv.map Dt.tr, kv) = (isort ltO (xs.map Dt.tr), 0) := by rw [htv, itemS_some (by rw [hse]; exact (okL_iff _).2 hSo) (by rw [hse]; exact asList_link _)]
   have hve : lv.map Dt.tr = isort ltO (xs.map Dt.tr) := congrArg Prod.fst hvp
   have hvk : kv = 0 := congrArg Prod.snd hvp
   have hvl : lv.length = xs.length := by have := congrArg List.length hve; rwa [List.length_map, isort_len, List.length_map] at this
   replace M := M.call hb26
   refine ⟨_, rfl, ?_⟩
   intro a H
   have hB3 := hB2.trans (M.bel.mono hB2.size)
   replace hT := hT.below M.bel
   replace hHg2 := hHg2.below M.bel
   replace hHg11 := hHg11.below M.bel
   replace hRx := hRx.below M.bel
   replace hDx := fun t ht => Dt.keep M.bel _ (hDx t ht)
   replace hrx := Dt.keep M.bel _ hrx
   replace hrd := Dt.keep M.bel _ hrd
   replace hrs := Dt.keep M.bel _ hrs
   have hHg18 := M.here 0 (cs := [.int .i64 s.d.k, .int .i64 s.d.n, .bool s.d.y.q.b1, .slice s.d.y.o1 s.d.y.q.t1.length s.d.y.c1, .slice s.d.y.o2 s.d.y.q.q1.length s.d.y.c2, .bool s.d.y.q.b2, .slice s.d.y.o3 s.d.y.q.t2.length s.d.y.c3, .slice s.d.y.o4 s.d.y.q.q2.length s.d.y.c4, .string s.d.s, .slice s.d.ro s.d.rl.length s.d.rc, .slice s.d.lo s.ts.length s.d.lc]) rfl
   replace M : Mg w27 w27 [] := Mg.start w27
   refine sdm H λa H↦?_
   iterate 2 refine sdo H (does_extract (vs := [.slice sv lv.length cv, .int .i64 kv]) rfl rfl) λa H↦?_
   iterate 2 refine sda H λa H↦?_
   refine seq_end (hK25 _ _ (wsk fun K28 hK28 => wrl (sdo H (m_loadHS M hHg18 LiQ_isS_30 rfl rfl) λa H↦?_)))
   refine sct H (ef rfl rfl) (sort_any (t := s) (Dt.keep M.bel _ hrs) (by omega) (hT.below M.bel) (by rw [hse]; exact (okL_iff _).2 hSo) (by rw [hse]; exact asList_link _)) ?_
   rintro _ w30 ⟨ag, kag, rfl, ⟨hrag, -, htag⟩, hb29⟩
   have hae : ag.tr = s.tr := (congrArg Prod.fst htag).trans (by show linkT (isort ltO (isort ltO (xs.map Dt.tr))) nilT = s.tr; rw [isort_twice ltO_swo, hse])
   have hka : kag = 0 := congrArg Prod.snd htag
   replace M := M.call hb29
   refine ⟨_, rfl, ?_⟩
   intro a H
   have hB4 := hB3.trans (M.bel.mono hB3.size)
   replace hT := hT.below M.bel
   replace hHg2 := hHg2.below M.bel
   replace hHg11 := hHg11.below M.bel
   replace hHg18 := hHg18.below M.bel
   replace hRx := hRx.below M.bel
   replace hDx := fun t ht => Dt.keep M.bel _ (hDx t ht)
   replace hRv := hRv.below M.bel
   replace hDv := fun t ht => Dt.keep M.bel _ (hDv t ht)
   replace hrx := Dt.keep M.bel _ hrx
   replace hrd := Dt.keep M.bel _ hrd
   replace hrs := Dt.keep M.bel _ hrs
   replace M : Mg w30 w30 [] := Mg.start w30
   refine sdm H λa H↦?_
   iterate 2 refine sdo H (does_extract (vs := [.agg (ag.d.cells ag.ts.length).toArray, .int .i64 kag]) rfl rfl) λa H↦?_
   refine s_new (vs := [.int .i64 0, .int .i64 0, .bool false, .slice none 0 0, .slice none 0 0, .bool false, .slice none 0 0, .slice none 0 0, .string (⟨#[]⟩), .slice none 0 0, .slice none 0 0]) (t := 30) H M rfl rfl rfl pg (does_alloc (z := .agg #[.int .i64 0, .int .i64 0, .bool false, .slice none 0 0, .slice none 0 0, .bool false, .slice none 0 0, .slice none 0 0, .string (⟨#[]⟩), .slice none 0 0, .slice none 0 0]) (by kernel_rfl) rfl) (by decide) ?_
   intro g31 w32 M a H
   refine s_store (us := [.int .i64 ag.d.k, .int .i64 ag.d.n, .bool ag.d.y.q.b1, .slice ag.d.y.o1 ag.d.y.q.t1.length ag.d.y.c1, .slice ag.d.y.o2 ag.d.y.q.q1.length ag.d.y.c2, .bool ag.d.y.q.b2, .slice ag.d.y.o3 ag.d.y.q.t2.length ag.d.y.c3, .slice ag.d.y.o4 ag.d.y.q.q2.length ag.d.y.c4, .string ag.d.s, .slice ag.d.ro ag.d.rl.length ag.d.rc, .slice ag.d.lo ag.ts.length ag.d.lc]) (L' := (.obj g31 (.cells (ag.d.cells ag.ts.length).toArray 30) :: [])) H M rfl rfl (m_store rfl rfl rfl (by kernel_rfl) M 0 rfl rfl rfl) 0 rfl rfl rfl ?_
   intro w33 M
   refine sda H λa H↦?_
   refine seq_end (hK28 _ _ (wsk fun K34 hK34 => wrl (sdo H (m_loadHS M hHg11 LiQ_isS_30 rfl rfl) λa H↦?_)))
   refine sct H (ef rfl rfl) (reverse_any (t := d) (Dt.keep M.bel _ hrd) (by omega) (hT.below M.bel)) ?_
   rintro _ w36 ⟨r, kr, rfl, ⟨hrr, -, htr⟩, hb35⟩
   have hre : (r.tr, kr) = (linkT (xs.map Dt.tr).reverse nilT, 0) := htr.trans (by rw [hde]; exact rev_ok hO)
   have hkr : kr = 0 := congrArg Prod.snd hre
   have hrt : r.tr = linkT (xs.map Dt.tr).reverse nilT := congrArg Prod.fst hre
   have hrb := rev_bulk d.tr
   rw [← htr] at hrb
   simp only at hrb
   replace M := M.call hb35
   refine ⟨_, rfl, ?_⟩
   intro a H
   have hB5 := hB4.trans (M.bel.mono hB4.size)
   replace hT := hT.below M.bel
   replace hHg2 := hHg2.below M.bel
   replace hHg11 := hHg11.below M.bel
   replace hHg18 := hHg18.below M.bel
   replace hRx := hRx.below M.bel
   replace hDx := fun t ht => Dt.keep M.bel _ (hDx t ht)
   replace hRv := hRv.below M.bel
   replace hDv := fun t ht => Dt.keep M.bel _ (hDv t ht)
   replace hrx := Dt.keep M.bel _ hrx
   replace hrd := Dt.keep M.bel _ hrd
   replace hrs := Dt.keep M.bel _ hrs
   replace hrag := Dt.keep M.bel _ hrag
   have hHg31 := M.here 0 (cs := [.int .i64 ag.d.k, .int .i64 ag.d.n, .bool ag.d.y.q.b1, .slice ag.d.y.o1 ag.d.y.q.t1.length ag.d.y.c1, .slice ag.d.y.o2 ag.d.y.q.q1.length ag.d.y.c2, .bool ag.d.y.q.b2, .slice ag.d.y.o3 ag.d.y.q.t2.length ag.d.y.c3, .slice ag.d.y.o4 ag.d.y.q.q2.length ag.d.y.c4, .string ag.d.s, .slice ag.d.ro ag.d.rl.length ag.d.rc, .slice ag.d.lo ag.ts.length ag.d.lc]) rfl
   replace M : Mg w36 w36 [] := Mg.start w36
   refine sdm H λa H↦?_
   iterate 2 refine sdo H (does_extract (vs := [.agg (r.d.cells r.ts.length).toArray, .int .i64 kr]) rfl rfl) λa H↦?_
   refine s_new (vs := [.int .i64 0, .int .i64 0, .bool false, .slice none 0 0, .slice none 0 0, .bool false, .slice none 0 0, .slice none 0 0, .string (⟨#[]⟩), .slice none 0 0, .slice none 0 0]) (t := 30) H M rfl rfl rfl pg (does_alloc (z := .agg #[.int .i64 0, .int .i64 0, .bool false, .slice none 0 0, .slice none 0 0, .bool false, .slice none 0 0, .slice none 0 0, .string (⟨#[]⟩), .slice none 0 0, .slice none 0 0]) (by kernel_rfl) rfl) (by decide) ?_
   intro g37 w38 M a H
   refine s_store (us := [.int .i64 r.d.k, .int .i64 r.d.n, .bool r.d.y.q.b1, .slice r.d.y.o1 r.d.y.q.t1.length r.d.y.c1, .slice r.d.y.o2 r.d.y.q.q1.length r.d.y.c2, .bool r.d.y.q.b2, .slice r.d.y.o3 r.d.y.q.t2.length r.d.y.c3, .slice r.d.y.o4 r.d.y.q.q2.length r.d.y.c4, .string r.d.s, .slice r.d.ro r.d.rl.length r.d.rc, .slice r.d.lo r.ts.length r.d.lc]) (L' := (.obj g37 (.cells (r.d.cells r.ts.length).toArray 30) :: [])) H M rfl rfl (m_store rfl rfl rfl (by kernel_rfl) M 0 rfl rfl rfl) 0 rfl rfl rfl ?_
   intro w39 M
   refine sda H λa H↦?_
   refine seq_end (hK34 _ _ (wsk fun K40 hK40 => wrl (sdo H (m_loadS M LiQ_isS_30 rfl 0 rfl (cs := [.int .i64 r.d.k, .int .i64 r.d.n, .bool r.d.y.q.b1, .slice r.d.y.o1 r.d.y.q.t1.length r.d.y.c1, .slice r.d.y.o2 r.d.y.q.q1.length r.d.y.c2, .bool r.d.y.q.b2, .slice r.d.y.o3 r.d.y.q.t2.length r.d.y.c3, .slice r.d.y.o4 r.d.y.q.q2.length r.d.y.c4, .string r.d.s, .slice r.d.ro r.d.rl.length r.d.rc, .slice r.d.lo r.ts.length r.d.lc]) rfl rfl) λa H↦?_)))
   refine sct H (ef rfl rfl) (reverse_any (t := r) (Dt.keep M.bel _ hrr) (by omega) (hT.below M.bel)) ?_
   rintro _ w42 ⟨bk, kbk, rfl, ⟨hrbk, -, htbk⟩, hb41⟩
   have hbe : (bk.tr, kbk) = (d.tr, 0) := htbk.trans (by rw [hrt, rev_ok (okL_perm (List.reverse_perm _).symm hO), List.reverse_reverse, hde])
   have hkb : kbk = 0 := congrArg Prod.snd hbe
   have hbt : bk.tr = d.tr := congrArg Prod.fst hbe
   replace M := M.call hb41
   refine ⟨_, rfl, ?_⟩
   intro a H
   have hB6 := hB5.trans (M.bel.mono hB5.size)
   replace hT := hT.below M.bel
   replace hHg2 := hHg2.below M.bel
   replace hHg11 := hHg11.below M.bel
   replace hHg18 := hHg18.below M.bel
   replace hHg31 := hHg31.below M.bel
   replace hRx := hRx.below M.bel
   replace hDx := fun t ht => Dt.keep M.bel _ (hDx t ht)
   replace hRv := hRv.below M.bel
   replace hDv := fun t ht => Dt.keep M.bel _ (hDv t ht)
   replace hrx := Dt.keep M.bel _ hrx
   replace hrd := Dt.keep M.bel _ hrd
   replace hrs := Dt.keep M.bel _ hrs
   replace hrag := Dt.keep M.bel _ hrag
   replace hrr := Dt.keep M.bel _ hrr
   have hHg37 := M.here 0 (cs := [.int .i64 r.d.k, .int .i64 r.d.n, .bool r.d.y.q.b1, .slice r.d.y.o1 r.d.y.q.t1.length r.d.y.c1, .slice r.d.y.o2 r.d.y.q.q1.length r.d.y.c2, .bool r.d.y.q.b2, .slice r.d.y.o3 r.d.y.q.t2.length r.d.y.c3, .slice r.d.y.o4 r.d.y.q.q2.length r.d.y.c4, .string r.d.s, .slice r.d.ro r.d.rl.length r.d.rc, .slice r.d.lo r.ts.length r.d.lc]) rfl
   replace M : Mg w42 w42 [] := Mg.start w42
   refine sdm H λa H↦?_
   iterate 2 refine sdo H (does_extract (vs := [.agg (bk.d.cells bk.ts.length).toArray, .int .i64 kbk]) rfl rfl) λa H↦?_
   refine s_new (vs := [.int .i64 0, .int .i64 0, .bool false, .slice none 0 0, .slice none 0 0, .bool false, .slice none 0 0, .slice none 0 0, .string (⟨#[]⟩), .slice none 0 0, .slice none 0 0]) (t := 30) H M rfl rfl rfl pg (does_alloc (z := .agg #[.int .i64 0, .int .i64 0, .bool false, .slice none 0 0, .slice none 0 0, .bool false, .slice none 0 0, .slice none 0 0, .string (⟨#[]⟩), .slice none 0 0, .slice none 0 0]) (by kernel_rfl) rfl) (by decide) ?_
   intro g43 w44 M a H
   refine s_store (us := [.int .i64 bk.d.k, .int .i64 bk.d.n, .bool bk.d.y.q.b1, .slice bk.d.y.o1 bk.d.y.q.t1.length bk.d.y.c1, .slice bk.d.y.o2 bk.d.y.q.q1.length bk.d.y.c2, .bool bk.d.y.q.b2, .slice bk.d.y.o3 bk.d.y.q.t2.length bk.d.y.c3, .slice bk.d.y.o4 bk.d.y.q.q2.length bk.d.y.c4, .string bk.d.s, .slice bk.d.ro bk.d.rl.length bk.d.rc, .slice bk.d.lo bk.ts.length bk.d.lc]) (L' := (.obj g43 (.cells (bk.d.cells bk.ts.length).toArray 30) :: [])) H M rfl rfl (m_store rfl rfl rfl (by kernel_rfl) M 0 rfl rfl rfl) 0 rfl rfl rfl ?_
   intro w45 M
   refine sda H λa H↦?_
   refine seq_end (hK40 _ _ (wsk fun K46 hK46 => wsk fun K47 hK47 => wrl (sdm H λa H↦?_)))
   refine sdo (v := .bool false) H (does_bin rfl rfl (fun w => (bin_neq w).trans (by rw [show ((kv != 0)) = false from (bne_eq_false_iff_eq.2 hvk)]))) λa H↦?_
   iterate 2 refine sdm H λa H↦?_
   refine sdo H (does_len Tryz.underlying28 rfl) λa H↦?_
   refine sdm H λa H↦?_
   refine sdo H (does_len Tryz.underlying28 rfl) λa H↦?_
   refine sdo (v := .bool false) H (does_bin rfl rfl (fun w => (bin_neq w).trans (by rw [show ((((lv.length : Nat) : Int) != ((xs.length : Nat) : Int))) = false from (bne_eq_false_iff_eq.2 (by omega))]))) λa H↦?_
   refine sdk (v := .bool false) H λa H↦?_
   iterate 2 refine sdm H λa H↦?_
   refine sdo (v := .bool false) H (does_bin rfl rfl (fun w => (bin_neq w).trans (by rw [show ((kag != 0)) = false from (bne_eq_false_iff_eq.2 hka)]))) λa H↦?_
   refine sdk (v := .bool false) H λa H↦?_
   refine sdm H λa H↦?_
   refine sdo H (m_loadHS M hHg31 LiQ_isS_30 rfl rfl) λa H↦?_
   refine sdo H (m_loadHS M hHg18 LiQ_isS_30 rfl rfl) λa H↦?_
   refine gcl H M (ef rfl rfl) ((((sameT_eq ag.tr s.tr).2 hae) ▸ rsames_all (ag.tr.bulk + 1) (t := ag) (u := s) (Nat.lt_succ_self _) (Dt.keep M.bel _ hrag) (Dt.keep M.bel _ hrs))) fun w49 hb48 M a H => ?_
   refine sdo (v := .bool false) H (does_un rfl un_not) λa H↦?_
   refine sdk (v := .bool false) H λa H↦?_
   iterate 2 refine sdm H λa H↦?_
   refine sdo (v := .bool false) H (does_bin rfl rfl (fun w => (bin_neq w).trans (by rw [show ((kr != 0)) = false from (bne_eq_false_iff_eq.2 hkr)]))) λa H↦?_
   refine sdk (v := .bool false) H λa H↦?_
   iterate 2 refine sdm H λa H↦?_
   refine sdo (v := .bool false) H (does_bin rfl rfl (fun w => (bin_neq w).trans (by rw [show ((kbk != 0)) = false from (bne_eq_false_iff_eq.2 hkb)]))) λa H↦?_
   refine sdk (v := .bool false) H λa H↦?_
   refine sdm H λa H↦?_
   refine sdo H (m_loadS M LiQ_isS_30 rfl 0 rfl (cs := [.int .i64 bk.d.k, .int .i64 bk.d.n, .bool bk.d.y.q.b1, .slice bk.d.y.o1 bk.d.y.q.t1.length bk.d.y.c1, .slice bk.d.y.o2 bk.d.y.q.q1.length bk.d.y.c2, .bool bk.d.y.q.b2, .slice bk.d.y.o3 bk.d.y.q.t2.length bk.d.y.c3, .slice bk.d.y.o4 bk.d.y.q.q2.length bk.d.y.c4, .string bk.d.s, .slice bk.d.ro bk.d.rl.length bk.d.rc, .slice bk.d.lo bk.ts.length bk.d.lc]) rfl rfl) λa H↦?_
   refine sdo H (m_loadHS M hHg11 LiQ_isS_30 rfl rfl) λa H↦?_
   refine gcl H M (ef rfl rfl) ((((sameT_eq bk.tr d.tr).2 hbt) ▸ rsames_all (bk.tr.bulk + 1) (t := bk) (u := d) (Nat.lt_succ_self _) (Dt.keep M.bel _ hrbk) (Dt.keep M.bel _ hrd))) fun w51 hb50 M a H => ?_
   refine sdo (v := .bool false) H (does_un rfl un_not) λa H↦?_
   refine sdk (v := .bool false) H λa H↦?_
   refine seq_end (hK47 _ _ (wp_cond_false (H.ev rfl) ?_))
   refine wp_skip (hK46 _ _ (wsk fun K52 hK52 => wrl ?_))
   iterate 2 refine sda H λa H↦?_
   refine seq_end (hK52 _ _ (wsk fun K53 hK53 => wsk fun K54 hK54 => wrl (sda H λa H↦?_)))
   refine seq_end (hK54 _ _ (wp_block (wp_loop_n (fun m_ a w1 => ∃ (j : Nat) (c1 : Nat) (c2 : Nat), m_ = 1 + (lv.length - j) ∧ (j ≤ lv.length ∧ (c1 = (lv.take j).countP fun z => equT z.tr x.tr) ∧ (c2 = (xs.take j).countP fun z => equT z.tr x.tr)) ∧ Sl a 136 [(0, .slice si xs.length ca), (1, .agg (x.d.cells x.ts.length).toArray), (3, .pointer (some ⟨g2, 0, none⟩)), (5, .pointer (some ⟨g11, 0, none⟩)), (6, .pointer (some ⟨g18, 0, none⟩)), (7, .int .i64 ks), (8, .slice sv lv.length cv), (9, .int .i64 kv), (10, .pointer (some ⟨g31, 0, none⟩)), (11, .int .i64 kag), (12, .pointer (some ⟨g37, 0, none⟩)), (13, .int .i64 kr), (14, .pointer (some ⟨g43, 0, none⟩)), (15, .int .i64 kbk), (16, .int .i64 (((c1 : Nat) : Int))), (17, .int .i64 (((c2 : Nat) : Int))), (18, .int .i64 (((j : Nat) : Int))), (24, .slice si xs.length ca), (25, .agg (d.d.cells d.ts.length).toArray), (26, .tuple #[.agg (s.d.cells s.ts.length).toArray, .int .i64 ks]), (27, .agg (d.d.cells d.ts.length).toArray), (28, .tuple #[.agg (s.d.cells s.ts.length).toArray, .int .i64 ks]), (29, .agg (s.d.cells s.ts.length).toArray), (30, .int .i64 ks), (31, .bool true), (32, .bool false), (33, .bool false), (34, .int .i64 ks), (35, .bool false), (36, .bool false), (43, .tuple #[.slice sv lv.length cv, .int .i64 kv]), (44, .agg (s.d.cells s.ts.length).toArray), (45, .tuple #[.slice sv lv.length cv, .int .i64 kv]), (46, .slice sv lv.length cv), (47, .int .i64 kv), (48, .tuple #[.agg (ag.d.cells ag.ts.length).toArray, .int .i64 kag]), (49, .agg (s.d.cells s.ts.length).toArray), (50, .tuple #[.agg (ag.d.cells ag.ts.length).toArray, .int .i64 kag]), (51, .agg (ag.d.cells ag.ts.length).toArray), (52, .int .i64 kag), (53, .tuple #[.agg (r.d.cells r.ts.length).toArray, .int .i64 kr]), (54, .agg (d.d.cells d.ts.length).toArray), (55, .tuple #[.agg (r.d.cells r.ts.length).toArray, .int .i64 kr]), (56, .agg (r.d.cells r.ts.length).toArray), (57, .int .i64 kr), (58, .tuple #[.agg (bk.d.cells bk.ts.length).toArray, .int .i64 kbk]), (59, .agg (r.d.cells r.ts.length).toArray), (60, .tuple #[.agg (bk.d.cells bk.ts.length).toArray, .int .i64 kbk]), (61, .agg (bk.d.cells bk.ts.length).toArray), (62, .int .i64 kbk), (63, .int .i64 kv), (64, .bool false), (65, .bool false), (66, .slice sv lv.length cv), (67, .int .i64 (((lv.length : Nat) : Int))), (68, .slice si xs.length ca), (69, .int .i64 (((xs.length : Nat) : Int))), (70, .bool false), (71, .bool false), (72, .bool false), (73, .int .i64 kag), (74, .bool false), (75, .bool false), (76, .bool false), (77, .agg (ag.d.cells ag.ts.length).toArray), (78, .agg (s.d.cells s.ts.length).toArray), (79, .bool true), (80, .bool false), (81, .bool false), (82, .bool false), (83, .int .i64 kr), (84, .bool false), (85, .bool false), (86, .bool false), (87, .int .i64 kbk), (88, .bool false), (89, .bool false), (90, .bool false), (91, .agg (bk.d.cells bk.ts.length).toArray), (92, .agg (d.d.cells d.ts.length).toArray), (93, .bool true), (94, .bool false), (95, .bool false)] ∧ Mg w42 w1 (.obj g43 (.cells (bk.d.cells bk.ts.length).toArray 30) :: [])) _ ⟨0, 0, 0, rfl, ⟨Nat.zero_le _, rfl, rfl⟩, H.keep _ ⟨rfl, rfl, rfl, rfl, rfl, rfl, rfl, rfl, rfl, rfl, rfl, rfl, rfl, rfl, rfl, rfl, rfl, rfl, rfl, rfl, rfl, rfl, rfl, rfl, rfl, rfl, rfl, rfl, rfl, rfl, rfl, rfl, rfl, rfl, rfl, rfl, rfl, rfl, rfl, rfl, rfl, rfl, rfl, rfl, rfl, rfl, rfl, rfl, rfl, rfl, rfl, rfl, rfl, rfl, rfl, rfl, rfl, rfl, rfl, rfl, rfl, rfl, rfl, rfl, rfl, rfl, rfl, rfl, rfl, rfl, rfl, rfl, rfl, rfl, rfl, rfl, rfl, rfl, rfl, rfl, rfl, rfl, rfl, trivial⟩, M⟩ ?_)))
   clear M H
   rintro m_ a w55 ⟨j, c1, c2, rfl, hinv57, H, M⟩ K56 hK56
   obtain ⟨hj0, hc1, hc2⟩ := hinv57
   have hn1 : c1 ≤ lv.length := hc1 ▸ cnt_len _ _ _
   have hn2 : c2 ≤ xs.length := hc2 ▸ cnt_len _ _ _
   refine wsk fun K58 hK58 => wsk fun K59 hK59 => wrl ?_
   iterate 2 refine sdm H λa H↦?_
   refine sdo H (does_len Tryz.underlying28 rfl) λa H↦?_
   rcases tf (decide (((j : Nat) : Int) < ((lv.length : Nat) : Int))) with hb60 | hb60
   ·
    have hb60' := of_decide_eq_true hb60
    refine sdc H bin_lss hb60 λa H↦?_
    refine seq_end (hK59 _ _ (wp_cond_true (H.ev rfl) ?_))
    refine wp_skip (hK58 _ _ (wsk fun K61 hK61 => wp_block (wsk fun K62 hK62 => ?_)))
    have hJ63 : ∀ a w1, (Sl a 136 [(0, .slice si xs.length ca), (1, .agg (x.d.cells x.ts.length).toArray), (3, .pointer (some ⟨g2, 0, none⟩)), (5, .pointer (some ⟨g11, 0, none⟩)), (6, .pointer (some ⟨g18, 0, none⟩)), (7, .int .i64 ks), (8, .slice sv lv.length cv), (9, .int .i64 kv), (10, .pointer (some ⟨g31, 0, none⟩)), (11, .int .i64 kag), (12, .pointer (some ⟨g37, 0, none⟩)), (13, .int .i64 kr), (14, .pointer (some ⟨g43, 0, none⟩)), (15, .int .i64 kbk), (16, .int .i64 (((c1 : Nat) : Int))), (17, .int .i64 (((c2 : Nat) : Int))), (18, .int .i64 (((j : Nat) : Int))), (24, .slice si xs.length ca), (25, .agg (d.d.cells d.ts.length).toArray), (26, .tuple #[.agg (s.d.cells s.ts.length).toArray, .int .i64 ks]), (27, .agg (d.d.cells d.ts.length).toArray), (28, .tuple #[.agg (s.d.cells s.ts.length).toArray, .int .i64 ks]), (29, .agg (s.d.cells s.ts.length).toArray), (30, .int .i64 ks), (31, .bool true), (32, .bool false), (33, .bool false), (34, .int .i64 ks), (35, .bool false), (36, .bool false), (43, .tuple #[.slice sv lv.length cv, .int .i64 kv]), (44, .agg (s.d.cells s.ts.length).toArray), (45, .tuple #[.slice sv lv.length cv, .int .i64 kv]), (46, .slice sv lv.length cv), (47, .int .i64 kv), (48, .tuple #[.agg (ag.d.cells ag.ts.length).toArray, .int .i64 kag]), (49, .agg (s.d.cells s.ts.length).toArray), (50, .tuple #[.agg (ag.d.cells ag.ts.length).toArray, .int .i64 kag]), (51, .agg (ag.d.cells ag.ts.length).toArray), (52, .int .i64 kag), (53, .tuple #[.agg (r.d.cells r.ts.length).toArray, .int .i64 kr]), (54, .agg (d.d.cells d.ts.length).toArray), (55, .tuple #[.agg (r.d.cells r.ts.length).toArray, .int .i64 kr]), (56, .agg (r.d.cells r.ts.length).toArray), (57, .int .i64 kr), (58, .tuple #[.agg (bk.d.cells bk.ts.length).toArray, .int .i64 kbk]), (59, .agg (r.d.cells r.ts.length).toArray), (60, .tuple #[.agg (bk.d.cells bk.ts.length).toArray, .int .i64 kbk]), (61, .agg (bk.d.cells bk.ts.length).toArray), (62, .int .i64 kbk), (63, .int .i64 kv), (64, .bool false), (65, .bool false), (66, .slice sv lv.length cv), (67, .int .i64 (((lv.length : Nat) : Int))), (68, .slice si xs.length ca), (69, .int .i64 (((xs.length : Nat) : Int))), (70, .bool false), (71, .bool false), (72, .bool false), (73, .int .i64 kag), (74, .bool false), (75, .bool false), (76, .bool false), (77, .agg (ag.d.cells ag.ts.length).toArray), (78, .agg (s.d.cells s.ts.length).toArray), (79, .bool true), (80, .bool false), (81, .bool false), (82, .bool false), (83, .int .i64 kr), (84, .bool false), (85, .bool false), (86, .bool false), (87, .int .i64 kbk), (88, .bool false), (89, .bool false), (90, .bool false), (91, .agg (bk.d.cells bk.ts.length).toArray), (92, .agg (d.d.cells d.ts.length).toArray), (93, .bool true), (94, .bool false), (95, .bool false), (96, .int .i64 (((j : Nat) : Int))), (97, .slice sv lv.length cv), (98, .int .i64 (((lv.length : Nat) : Int))), (99, .bool true)] ∧ Mg w42 w1 (.obj g43 (.cells (bk.d.cells bk.ts.length).toArray 30) :: [])) → K62 a w1 := by
     clear H M
     rintro a w64 ⟨H, M⟩
     refine hK62 _ _ (wsk fun K66 hK66 => ?_)
     have hJ67 : ∀ a w1, (∃ (c3 : Nat), (c3 = (lv.take (j + 1)).countP fun z => equT z.tr x.tr) ∧ Sl a 136 [(0, .slice si xs.length ca), (1, .agg (x.d.cells x.ts.length).toArray), (3, .pointer (some ⟨g2, 0, none⟩)), (5, .pointer (some ⟨g11, 0, none⟩)), (6, .pointer (some ⟨g18, 0, none⟩)), (7, .int .i64 ks), (8, .slice sv lv.length cv), (9, .int .i64 kv), (10, .pointer (some ⟨g31, 0, none⟩)), (11, .int .i64 kag), (12, .pointer (some ⟨g37, 0, none⟩)), (13, .int .i64 kr), (14, .pointer (some ⟨g43, 0, none⟩)), (15, .int .i64 kbk), (16, .int .i64 (((c3 : Nat) : Int))), (17, .int .i64 (((c2 : Nat) : Int))), (18, .int .i64 (((j : Nat) : Int))), (24, .slice si xs.length ca), (25, .agg (d.d.cells d.ts.length).toArray), (26, .tuple #[.agg (s.d.cells s.ts.length).toArray, .int .i64 ks]), (27, .agg (d.d.cells d.ts.length).toArray), (28, .tuple #[.agg (s.d.cells s.ts.length).toArray, .int .i64 ks]), (29, .agg (s.d.cells s.ts.length).toArray), (30, .int .i64 ks), (31, .bool true), (32, .bool false), (33, .bool false), (34, .int .i64 ks), (35, .bool false), (36, .bool false), (43, .tuple #[.slice sv lv.length cv, .int .i64 kv]), (44, .agg (s.d.cells s.ts.length).toArray), (45, .tuple #[.slice sv lv.length cv, .int .i64 kv]), (46, .slice sv lv.length cv), (47, .int .i64 kv), (48, .tuple #[.agg (ag.d.cells ag.ts.length).toArray, .int .i64 kag]), (49, .agg (s.d.cells s.ts.length).toArray), (50, .tuple #[.agg (ag.d.cells ag.ts.length).toArray, .int .i64 kag]), (51, .agg (ag.d.cells ag.ts.length).toArray), (52, .int .i64 kag), (53, .tuple #[.agg (r.d.cells r.ts.length).toArray, .int .i64 kr]), (54, .agg (d.d.cells d.ts.length).toArray), (55, .tuple #[.agg (r.d.cells r.ts.length).toArray, .int .i64 kr]), (56, .agg (r.d.cells r.ts.length).toArray), (57, .int .i64 kr), (58, .tuple #[.agg (bk.d.cells bk.ts.length).toArray, .int .i64 kbk]), (59, .agg (r.d.cells r.ts.length).toArray), (60, .tuple #[.agg (bk.d.cells bk.ts.length).toArray, .int .i64 kbk]), (61, .agg (bk.d.cells bk.ts.length).toArray), (62, .int .i64 kbk), (63, .int .i64 kv), (64, .bool false), (65, .bool false), (66, .slice sv lv.length cv), (67, .int .i64 (((lv.length : Nat) : Int))), (68, .slice si xs.length ca), (69, .int .i64 (((xs.length : Nat) : Int))), (70, .bool false), (71, .bool false), (72, .bool false), (73, .int .i64 kag), (74, .bool false), (75, .bool false), (76, .bool false), (77, .agg (ag.d.cells ag.ts.length).toArray), (78, .agg (s.d.cells s.ts.length).toArray), (79, .bool true), (80, .bool false), (81, .bool false), (82, .bool false), (83, .int .i64 kr), (84, .bool false), (85, .bool false), (86, .bool false), (87, .int .i64 kbk), (88, .bool false), (89, .bool false), (90, .bool false), (91, .agg (bk.d.cells bk.ts.length).toArray), (92, .agg (d.d.cells d.ts.length).toArray), (93, .bool true), (94, .bool false), (95, .bool false), (96, .int .i64 (((j : Nat) : Int))), (97, .slice sv lv.length cv), (98, .int .i64 (((lv.length : Nat) : Int))), (99, .bool true)] ∧ Mg w42 w1 (.obj g43 (.cells (bk.d.cells bk.ts.length).toArray 30) :: [])) → K66 a w1 := by
      clear H M
      rintro a w68 ⟨c3, hf69, H, M⟩
      have hc3 := hf69
      have hn3 : c3 ≤ lv.length := hc3 ▸ cnt_len _ _ _
      refine hK66 _ _ (wsk fun K70 hK70 => ?_)
      obtain ⟨t2, bt2, ot2, it2, mt2, rt2_, lt2, Ht2⟩ := kidL hRx hDx (i := j) (by omega)
      refine wp_draw (S := fun w1 => Mg w42 w1 ([])) (by kernel_rfl) ?_
      replace M := M.drew
      refine any_tk H 0 rfl rfl rfl rfl hP (M.sub (.cons _ (List.nil_sublist _))) (fun w1 M => does_move rfl) λa H↦?_
      refine any_tk H 1 rfl rfl rfl rfl hP (M.sub (.cons _ (List.nil_sublist _))) (fun w1 M => does_move rfl) λa H↦?_
      refine any_tk (v := .pointer (some ⟨bt2, ot2 + j * 11, none⟩)) H 2 rfl rfl rfl rfl hP (M.sub (.cons _ (List.nil_sublist _))) (fun w1 M => does_indexD (k := j) Tryz.underlying28 (by kernel_rfl) rfl rfl rfl lt2 (by omega)) λa H↦?_
      refine any_tk H 3 rfl rfl rfl rfl hP (M.sub (.cons _ (List.nil_sublist _))) (fun w1 M => m_loadHS M Ht2 LiQ_isS_30 rfl rfl) λa H↦?_
      refine any_tk H 4 rfl rfl rfl rfl hP (M.sub (.cons _ (List.nil_sublist _))) (fun w1 M => m_loadHS M hHg2 LiQ_isS_30 rfl rfl) λa H↦?_
      refine any_one (by kernel_rfl) (op_call H 5 rfl rfl rfl rfl (enters_func rfl rfl (fun w => by kernel_rfl)) (equal_any (t := t2) (u := x) (Dt.keep M.bel _ rt2_) (Dt.keep M.bel _ hrx) (hT.below M.bel)) ?_)
      rintro _ w72 ⟨rfl, hb71⟩
      replace M := M.call hb71
      refine ⟨_, rfl, (M.sub (.cons _ (List.nil_sublist _))), ?_⟩
      intro a H
      refine any_end (by kernel_rfl) ?_
      refine hK70 _ _ ?_
      refine wp_cond_split (t := equT t2.tr x.tr) (H.ev rfl) (fun hc73 => ?_) (fun hc73 => ?_)
      ·
       refine wrl (sdm H λa H↦?_)
       refine sdo (v := .int .i64 (((c2 + 1 : Nat) : Int))) H (does_bin rfl rfl (fun w => (bin_add (i64In (by omega) (by omega)) w).trans (by rw [show (((c2 : Nat) : Int) + 1 : Int) = ((c2 + 1 : Nat) : Int) from by omega]))) λa H↦?_
       refine sda H λa H↦?_
       refine seq_end (hK61 _ _ (wrl (sdm H λa H↦?_)))
       refine sdo (v := .int .i64 (((j + 1 : Nat) : Int))) H (does_bin rfl rfl (fun w => (bin_add (i64In (by omega) (by omega)) w).trans (by rw [show (((j : Nat) : Int) + 1 : Int) = ((j + 1 : Nat) : Int) from by omega]))) λa H↦?_
       refine sda H λa H↦?_
       refine seq_end ?_
       refine hK56 _ _ _ (by omega) ⟨j + 1, c3, c2 + 1, rfl, ⟨by omega, hc3, cnt_yes it2 hc2 hc73⟩, H.keep _ ⟨rfl, rfl, rfl, rfl, rfl, rfl, rfl, rfl, rfl, rfl, rfl, rfl, rfl, rfl, rfl, rfl, rfl, rfl, rfl, rfl, rfl, rfl, rfl, rfl, rfl, rfl, rfl, rfl, rfl, rfl, rfl, rfl, rfl, rfl, rfl, rfl, rfl, rfl, rfl, rfl, rfl, rfl, rfl, rfl, rfl, rfl, rfl, rfl, rfl, rfl, rfl, rfl, rfl, rfl, rfl, rfl, rfl, rfl, rfl, rfl, rfl, rfl, rfl, rfl, rfl, rfl, rfl, rfl, rfl, rfl, rfl, rfl, rfl, rfl, rfl, rfl, rfl, rfl, rfl, rfl, rfl, rfl, rfl, trivial⟩, M⟩
      ·
       refine wp_skip (hK61 _ _ (wrl (sdm H λa H↦?_)))
       refine sdo (v := .int .i64 (((j + 1 : Nat) : Int))) H (does_bin rfl rfl (fun w => (bin_add (i64In (by omega) (by omega)) w).trans (by rw [show (((j : Nat) : Int) + 1 : Int) = ((j + 1 : Nat) : Int) from by omega]))) λa H↦?_
       refine sda H λa H↦?_
       refine seq_end ?_
       refine hK56 _ _ _ (by omega) ⟨j + 1, c3, c2, rfl, ⟨by omega, hc3, cnt_no it2 hc2 hc73⟩, H.keep _ ⟨rfl, rfl, rfl, rfl, rfl, rfl, rfl, rfl, rfl, rfl, rfl, rfl, rfl, rfl, rfl, rfl, rfl, rfl, rfl, rfl, rfl, rfl, rfl, rfl, rfl, rfl, rfl, rfl, rfl, rfl, rfl, rfl, rfl, rfl, rfl, rfl, rfl, rfl, rfl, rfl, rfl, rfl, rfl, rfl, rfl, rfl, rfl, rfl, rfl, rfl, rfl, rfl, rfl, rfl, rfl, rfl, rfl, rfl, rfl, rfl, rfl, rfl, rfl, rfl, rfl, rfl, rfl, rfl, rfl, rfl, rfl, rfl, rfl, rfl, rfl, rfl, rfl, rfl, rfl, rfl, rfl, rfl, rfl, trivial⟩, M⟩
     refine wsk fun K74 hK74 => ?_
     obtain ⟨t1, bt1, ot1, it1, mt1, rt1_, lt1, Ht1⟩ := kidL hRv hDv (i := j) (by omega)
     refine wp_draw (S := fun w1 => Mg w42 w1 ([])) (by kernel_rfl) ?_
     replace M := M.drew
     refine any_tk H 0 rfl rfl rfl rfl hP (M.sub (.cons _ (List.nil_sublist _))) (fun w1 M => does_move rfl) λa H↦?_
     refine any_tk H 1 rfl rfl rfl rfl hP (M.sub (.cons _ (List.nil_sublist _))) (fun w1 M => does_move rfl) λa H↦?_
     refine any_tk (v := .pointer (some ⟨bt1, ot1 + j * 11, none⟩)) H 2 rfl rfl rfl rfl hP (M.sub (.cons _ (List.nil_sublist _))) (fun w1 M => does_indexD (k := j) Tryz.underlying28 (by kernel_rfl) rfl rfl rfl lt1 (by omega)) λa H↦?_
     refine any_tk H 3 rfl rfl rfl rfl hP (M.sub (.cons _ (List.nil_sublist _))) (fun w1 M => m_loadHS M Ht1 LiQ_isS_30 rfl rfl) λa H↦?_
     refine any_tk H 4 rfl rfl rfl rfl hP (M.sub (.cons _ (List.nil_sublist _))) (fun w1 M => m_loadHS M hHg2 LiQ_isS_30 rfl rfl) λa H↦?_
     refine any_one (by kernel_rfl) (op_call H 5 rfl rfl rfl rfl (enters_func rfl rfl (fun w => by kernel_rfl)) (equal_any (t := t1) (u := x) (Dt.keep M.bel _ rt1_) (Dt.keep M.bel _ hrx) (hT.below M.bel)) ?_)
     rintro _ w76 ⟨rfl, hb75⟩
     replace M := M.call hb75
     refine ⟨_, rfl, (M.sub (.cons _ (List.nil_sublist _))), ?_⟩
     intro a H
     refine any_end (by kernel_rfl) ?_
     refine hK74 _ _ ?_
     refine wp_cond_split (t := equT t1.tr x.tr) (H.ev rfl) (fun hc77 => ?_) (fun hc77 => ?_)
     ·
      refine wrl (sdm H λa H↦?_)
      refine sdo (v := .int .i64 (((c1 + 1 : Nat) : Int))) H (does_bin rfl rfl (fun w => (bin_add (i64In (by omega) (by omega)) w).trans (by rw [show (((c1 : Nat) : Int) + 1 : Int) = ((c1 + 1 : Nat) : Int) from by omega]))) λa H↦?_
      refine sda H λa H↦?_
      refine seq_end ?_
      exact hJ67 _ _ ⟨c1 + 1, (cnt_yes it1 hc1 hc77), H.keep _ ⟨rfl, rfl, rfl, rfl, rfl, rfl, rfl, rfl, rfl, rfl, rfl, rfl, rfl, rfl, rfl, rfl, rfl, rfl, rfl, rfl, rfl, rfl, rfl, rfl, rfl, rfl, rfl, rfl, rfl, rfl, rfl, rfl, rfl, rfl, rfl, rfl, rfl, rfl, rfl, rfl, rfl, rfl, rfl, rfl, rfl, rfl, rfl, rfl, rfl, rfl, rfl, rfl, rfl, rfl, rfl, rfl, rfl, rfl, rfl, rfl, rfl, rfl, rfl, rfl, rfl, rfl, rfl, rfl, rfl, rfl, rfl, rfl, rfl, rfl, rfl, rfl, rfl, rfl, rfl, rfl, rfl, rfl, rfl, rfl, rfl, rfl, rfl, trivial⟩, M⟩
     ·
      refine wp_skip ?_
      exact hJ67 _ _ ⟨c1, (cnt_no it1 hc1 hc77), H.keep _ ⟨rfl, rfl, rfl, rfl, rfl, rfl, rfl, rfl, rfl, rfl, rfl, rfl, rfl, rfl, rfl, rfl, rfl, rfl, rfl, rfl, rfl, rfl, rfl, rfl, rfl, rfl, rfl, rfl, rfl, rfl, rfl, rfl, rfl, rfl, rfl, rfl, rfl, rfl, rfl, rfl, rfl, rfl, rfl, rfl, rfl, rfl, rfl, rfl, rfl, rfl, rfl, rfl, rfl, rfl, rfl, rfl, rfl, rfl, rfl, rfl, rfl, rfl, rfl, rfl, rfl, rfl, rfl, rfl, rfl, rfl, rfl, rfl, rfl, rfl, rfl, rfl, rfl, rfl, rfl, rfl, rfl, rfl, rfl, rfl, rfl, rfl, rfl, trivial⟩, M⟩
    refine wsk fun K78 hK78 => ?_
    obtain ⟨t1, bt1, ot1, it1, mt1, rt1_, lt1, Ht1⟩ := kidL hRv hDv (i := j) (by omega)
    obtain ⟨t3, bt3, ot3, it3, mt3, rt3_, lt3, Ht3⟩ := kidL hRv hDv (i := (j - 1)) (by omega)
    have hnn : 0 < j → ¬ 0 < cmpT t3.tr t1.tr := fun h9 => order_next hve hXs it3 it1 (by omega)
    refine wp_draw (S := fun w1 => Mg w42 w1 ([])) (by kernel_rfl) ?_
    replace M := M.drew
    refine any_tk H 0 rfl rfl rfl rfl hP (M.sub (.cons _ (List.nil_sublist _))) (fun w1 M => does_move rfl) λa H↦?_
    rcases tf (decide (0 < ((j : Nat) : Int))) with hb79 | hb79
    ·
     have hb79' := of_decide_eq_true hb79
     refine any_tk (v := .bool true) H 1 rfl rfl rfl rfl hP (M.sub (.cons _ (List.nil_sublist _))) (fun w1 M => does_bin rfl rfl (fun w => (bin_gtr w).trans (by rw [hb79]))) λa H↦?_
     refine any_tk H 2 rfl rfl rfl rfl hP (M.sub (.cons _ (List.nil_sublist _))) (fun w1 M => does_move rfl) λa H↦?_
     refine any_tk H 3 rfl rfl rfl rfl hP (M.sub (.cons _ (List.nil_sublist _))) (fun w1 M => does_move rfl) λa H↦?_
     refine any_tk H 4 rfl rfl rfl rfl hP (M.sub (.cons _ (List.nil_sublist _))) (fun w1 M => does_move rfl) λa H↦?_
     refine any_tk (v := .int .i64 (((j - 1 : Nat) : Int))) H 5 rfl rfl rfl rfl hP (M.sub (.cons _ (List.nil_sublist _))) (fun w1 M => does_bin rfl rfl (ar_sub ((in_i64 (by omega) (by omega)).trans (by omega)))) λa H↦?_
     refine any_tk (v := .pointer (some ⟨bt3, ot3 + (j - 1) * 11, none⟩)) H 6 rfl rfl rfl rfl hP (M.sub (.cons _ (List.nil_sublist _))) (fun w1 M => does_indexD (k := (j - 1)) Tryz.underlying28 (by kernel_rfl) rfl rfl rfl lt3 (by omega)) λa H↦?_
     refine any_tk H 7 rfl rfl rfl rfl hP (M.sub (.cons _ (List.nil_sublist _))) (fun w1 M => m_loadHS M Ht3 LiQ_isS_30 rfl rfl) λa H↦?_
     refine any_tk H 8 rfl rfl rfl rfl hP (M.sub (.cons _ (List.nil_sublist _))) (fun w1 M => does_move rfl) λa H↦?_
     refine any_tk H 9 rfl rfl rfl rfl hP (M.sub (.cons _ (List.nil_sublist _))) (fun w1 M => does_move rfl) λa H↦?_
     refine any_tk (v := .pointer (some ⟨bt1, ot1 + j * 11, none⟩)) H 10 rfl rfl rfl rfl hP (M.sub (.cons _ (List.nil_sublist _))) (fun w1 M => does_indexD (k := j) Tryz.underlying28 (by kernel_rfl) rfl rfl rfl lt1 (by omega)) λa H↦?_
     refine any_tk H 11 rfl rfl rfl rfl hP (M.sub (.cons _ (List.nil_sublist _))) (fun w1 M => m_loadHS M Ht1 LiQ_isS_30 rfl rfl) λa H↦?_
     refine any_one (by kernel_rfl) (op_call H 12 rfl rfl rfl rfl (enters_func rfl rfl (fun w => by kernel_rfl)) (cmp_any (t := t3) (u := t1) (Dt.keep M.bel _ rt3_) (Dt.keep M.bel _ rt1_) (hT.below M.bel)) ?_)
     rintro _ w81 ⟨rfl, hb80⟩
     replace M := M.call hb80
     refine ⟨_, rfl, (M.sub (.cons _ (List.nil_sublist _))), ?_⟩
     intro a H
     refine any_tk (v := .bool false) H 13 rfl rfl rfl rfl hP (M.sub (.cons _ (List.nil_sublist _))) (fun w1 M => does_bin rfl rfl (fun w => (bin_gtr w).trans (by rw [show (decide (0 < cmpT t3.tr t1.tr)) = false from (decide_eq_false (hnn (by omega)))]))) λa H↦?_
     refine any_tk (v := .bool false) H 14 rfl rfl rfl rfl hP (M.sub (.cons _ (List.nil_sublist _))) (fun w1 M => does_pick rfl rfl rfl rfl) λa H↦?_
     refine any_end (by kernel_rfl) ?_
     refine hK78 _ _ (wp_cond_false (H.ev rfl) ?_)
     refine wp_skip ?_
     exact hJ63 _ _ ⟨H.keep _ ⟨rfl, rfl, rfl, rfl, rfl, rfl, rfl, rfl, rfl, rfl, rfl, rfl, rfl, rfl, rfl, rfl, rfl, rfl, rfl, rfl, rfl, rfl, rfl, rfl, rfl, rfl, rfl, rfl, rfl, rfl, rfl, rfl, rfl, rfl, rfl, rfl, rfl, rfl, rfl, rfl, rfl, rfl, rfl, rfl, rfl, rfl, rfl, rfl, rfl, rfl, rfl, rfl, rfl, rfl, rfl, rfl, rfl, rfl, rfl, rfl, rfl, rfl, rfl, rfl, rfl, rfl, rfl, rfl, rfl, rfl, rfl, rfl, rfl, rfl, rfl, rfl, rfl, rfl, rfl, rfl, rfl, rfl, rfl, rfl, rfl, rfl, rfl, trivial⟩, M⟩
    ·
     have hb79' := of_decide_eq_false hb79
     refine any_tk (v := .bool false) H 1 rfl rfl rfl rfl hP (M.sub (.cons _ (List.nil_sublist _))) (fun w1 M => does_bin rfl rfl (fun w => (bin_gtr w).trans (by rw [hb79]))) λa H↦?_
     refine any_tk H 2 rfl rfl rfl rfl hP (M.sub (.cons _ (List.nil_sublist _))) (fun w1 M => does_move rfl) λa H↦?_
     refine any_sk H 3 rfl rfl rfl rfl hP (M.sub (.cons _ (List.nil_sublist _))) λa H↦?_
     refine any_sk H 4 rfl rfl rfl rfl hP (M.sub (.cons _ (List.nil_sublist _))) λa H↦?_
     refine any_sk H 5 rfl rfl rfl rfl hP (M.sub (.cons _ (List.nil_sublist _))) λa H↦?_
     refine any_sk H 6 rfl rfl rfl rfl hP (M.sub (.cons _ (List.nil_sublist _))) λa H↦?_
     refine any_sk H 7 rfl rfl rfl rfl hP (M.sub (.cons _ (List.nil_sublist _))) λa H↦?_
     refine any_sk H 8 rfl rfl rfl rfl hP (M.sub (.cons _ (List.nil_sublist _))) λa H↦?_
     refine any_sk H 9 rfl rfl rfl rfl hP (M.sub (.cons _ (List.nil_sublist _))) λa H↦?_
     refine any_sk H 10 rfl rfl rfl rfl hP (M.sub (.cons _ (List.nil_sublist _))) λa H↦?_
     refine any_sk H 11 rfl rfl rfl rfl hP (M.sub (.cons _ (List.nil_sublist _))) λa H↦?_
     refine any_sk H 12 rfl rfl rfl rfl hP (M.sub (.cons _ (List.nil_sublist _))) λa H↦?_
     refine any_sk H 13 rfl rfl rfl rfl hP (M.sub (.cons _ (List.nil_sublist _))) λa H↦?_
     refine any_tk (v := .bool false) H 14 rfl rfl rfl rfl hP (M.sub (.cons _ (List.nil_sublist _))) (fun w1 M => does_pick rfl rfl rfl rfl) λa H↦?_
     refine any_end (by kernel_rfl) ?_
     refine hK78 _ _ (wp_cond_false (H.ev rfl) ?_)
     refine wp_skip ?_
     exact hJ63 _ _ ⟨H.keep _ ⟨rfl, rfl, rfl, rfl, rfl, rfl, rfl, rfl, rfl, rfl, rfl, rfl, rfl, rfl, rfl, rfl, rfl, rfl, rfl, rfl, rfl, rfl, rfl, rfl, rfl, rfl, rfl, rfl, rfl, rfl, rfl, rfl, rfl, rfl, rfl, rfl, rfl, rfl, rfl, rfl, rfl, rfl, rfl, rfl, rfl, rfl, rfl, rfl, rfl, rfl, rfl, rfl, rfl, rfl, rfl, rfl, rfl, rfl, rfl, rfl, rfl, rfl, rfl, rfl, rfl, rfl, rfl, rfl, rfl, rfl, rfl, rfl, rfl, rfl, rfl, rfl, rfl, rfl, rfl, rfl, rfl, rfl, rfl, rfl, rfl, rfl, rfl, trivial⟩, M⟩
   ·
    have hb60' := of_decide_eq_false hb60
    refine sdc H bin_lss hb60 λa H↦?_
    refine seq_end (hK59 _ _ (wp_cond_false (H.ev rfl) ?_))
    refine wp_exit (hK53 _ _ (wsk fun K82 hK82 => ?_))
    have hcc : c1 = c2 := cnt_end hve hvl (by omega) hc1 hc2
    refine wrl ?_
    iterate 2 refine sdm H λa H↦?_
    refine sdo (v := .bool true) H (does_bin rfl rfl (fun w => (bin_eql w).trans (by rw [show ((((c1 : Nat) : Int) == ((c2 : Nat) : Int))) = true from (beq_iff_eq.2 (by omega))]))) λa H↦?_
    refine sda H λa H↦?_
    refine seq_end (hK82 _ _ (wp_ret (hret _ _ (en1 H rfl (res_tmp rfl) ?_))))
    exact ⟨rfl, hB6.trans (M.bel.mono hB6.size)⟩
  ·
   refine sct H (ef rfl rfl) (sort_bad (t := d) (Dt.keep M.bel _ hrd) (by omega) (hT.below M.bel) hb15) ?_
   rintro _ w84 ⟨s, ks, rfl, ⟨hrs, -, hts⟩, hb83⟩
   have hks : ks = 2 := congrArg Prod.snd hts
   replace M := M.call hb83
   refine ⟨_, rfl, ?_⟩
   intro a H
   have hB2 := hB1.trans (M.bel.mono hB1.size)
   replace hT := hT.below M.bel
   replace hHg2 := hHg2.below M.bel
   replace hRx := hRx.below M.bel
   replace hDx := fun t ht => Dt.keep M.bel _ (hDx t ht)
   replace hrx := Dt.keep M.bel _ hrx
   replace hrd := Dt.keep M.bel _ hrd
   have hHg11 := M.here 0 (cs := [.int .i64 d.d.k, .int .i64 d.d.n, .bool d.d.y.q.b1, .slice d.d.y.o1 d.d.y.q.t1.length d.d.y.c1, .slice d.d.y.o2 d.d.y.q.q1.length d.d.y.c2, .bool d.d.y.q.b2, .slice d.d.y.o3 d.d.y.q.t2.length d.d.y.c3, .slice d.d.y.o4 d.d.y.q.q2.length d.d.y.c4, .string d.d.s, .slice d.d.ro d.d.rl.length d.d.rc, .slice d.d.lo d.ts.length d.d.lc]) rfl
   replace M : Mg w84 w84 [] := Mg.start w84
   refine sdm H λa H↦?_
   iterate 2 refine sdo H (does_extract (vs := [.agg (s.d.cells s.ts.length).toArray, .int .i64 ks]) rfl rfl) λa H↦?_
   refine s_new (vs := [.int .i64 0, .int .i64 0, .bool false, .slice none 0 0, .slice none 0 0, .bool false, .slice none 0 0, .slice none 0 0, .string (⟨#[]⟩), .slice none 0 0, .slice none 0 0]) (t := 30) H M rfl rfl rfl pg (does_alloc (z := .agg #[.int .i64 0, .int .i64 0, .bool false, .slice none 0 0, .slice none 0 0, .bool false, .slice none 0 0, .slice none 0 0, .string (⟨#[]⟩), .slice none 0 0, .slice none 0 0]) (by kernel_rfl) rfl) (by decide) ?_
   intro g85 w86 M a H
   refine s_store (us := [.int .i64 s.d.k, .int .i64 s.d.n, .bool s.d.y.q.b1, .slice s.d.y.o1 s.d.y.q.t1.length s.d.y.c1, .slice s.d.y.o2 s.d.y.q.q1.length s.d.y.c2, .bool s.d.y.q.b2, .slice s.d.y.o3 s.d.y.q.t2.length s.d.y.c3, .slice s.d.y.o4 s.d.y.q.q2.length s.d.y.c4, .string s.d.s, .slice s.d.ro s.d.rl.length s.d.rc, .slice s.d.lo s.ts.length s.d.lc]) (L' := (.obj g85 (.cells (s.d.cells s.ts.length).toArray 30) :: [])) H M rfl rfl (m_store rfl rfl rfl (by kernel_rfl) M 0 rfl rfl rfl) 0 rfl rfl rfl ?_
   intro w87 M
   refine sda H λa H↦?_
   refine seq_end (hK14 _ _ (wsk fun K88 hK88 => wsk fun K89 hK89 => wrl (sct H (ef rfl rfl) (awake_any (hT.below M.bel)) ?_)))
   rintro _ w91 ⟨rfl, hb90⟩
   replace M := M.call hb90
   refine ⟨_, rfl, ?_⟩
   intro a H
   refine sdo (v := .bool false) H (does_un rfl un_not) λa H↦?_
   iterate 2 refine sdm H λa H↦?_
   refine sdo (v := .bool true) H (does_bin rfl rfl (fun w => (bin_neq w).trans (by rw [show ((ks != 0)) = true from (bne_iff_ne.2 (by omega))]))) λa H↦?_
   refine sdk (v := .bool true) H λa H↦?_
   refine seq_end (hK89 _ _ (wp_cond_true (H.ev rfl) ?_))
   refine wsk fun K92 hK92 => wrl (sct H (ef rfl rfl) (awake_any (hT.below M.bel)) ?_)
   rintro _ w94 ⟨rfl, hb93⟩
   replace M := M.call hb93
   refine ⟨_, rfl, ?_⟩
   intro a H
   refine sdm H λa H↦?_
   refine sdo H (m_loadHS M hHg11 LiQ_isS_30 rfl rfl) λa H↦?_
   refine gcl H M (ef rfl rfl) (sound0 (t := d) (ofS_no htd hb15)) fun w96 hb95 M a H => ?_
   refine sdo (v := .bool true) H (does_un rfl un_not) λa H↦?_
   refine sdk (v := .bool true) H λa H↦?_
   refine sda H λa H↦?_
   refine seq_end (hK92 _ _ (wp_ret (hret _ _ (en1 H rfl (res_tmp rfl) ?_))))
   exact ⟨rfl, hB2.trans (M.bel.mono hB2.size)⟩
 refine wsk fun K97 hK97 => wrl (sdm H λa H↦?_)
 refine sdo H (does_len Tryz.underlying28 rfl) λa H↦?_
 rcases tf (decide (300 < ((ts.length : Nat) : Int))) with hb98 | hb98
 ·
  have hb98' := of_decide_eq_true hb98
  refine sdc H bin_gtr hb98 λa H↦?_
  refine seq_end (hK97 _ _ (wp_cond_true (H.ev rfl) ?_))
  refine wrl (sdm H λa H↦?_)
  refine sdo (v := .slice si ((ts.take 300).length) ca) H (does_upto (sz := 11) (hi := (ts.take 300).length) Tryz.underlying28 (by kernel_rfl) rfl rfl (by rw [List.length_take]; omega) (by rw [List.length_take]; omega)) λa H↦?_
  refine sda H λa H↦?_
  refine seq_end ?_
  exact hJ5 _ _ ⟨ts.take 300, ⟨hR.take 300, fun t ht => hD t (List.mem_of_mem_take ht), Nat.le_trans (bulks_part 300) hb, (by rw [List.length_take]; omega)⟩, H.keep _ ⟨rfl, rfl, rfl, rfl, trivial⟩, M⟩
 ·
  have hb98' := of_decide_eq_false hb98
  refine sdc H bin_gtr hb98 λa H↦?_
  refine seq_end (hK97 _ _ (wp_cond_false (H.ev rfl) ?_))
  refine wp_skip ?_
  exact hJ5 _ _ ⟨ts, ⟨hR, hD, hb, by omega⟩, H.keep _ ⟨rfl, rfl, rfl, rfl, trivial⟩, M⟩
end Go.Proofs.YtofbejppkldhnaaGreatDoor.G
namespace Go.Proofs.YtofbejppkldhnaaGreatDoor
set_option linter.unusedVariables false

section
variable {H : Type}
theorem bulk_pos (d : DataW H) : 0 < Rows.uptoBulk d := by
  unfold Rows.uptoBulk
  split <;> omega
theorem bulk_len : ∀ l : List (DataW H), l.length ≤ Rows.uptoBulkAll l
  | [] => by simp
  | d :: l => by
    have h1 := bulk_pos d
    have h2 := bulk_len l
    simp only [Rows.uptoBulkAll, List.length_cons]
    omega
theorem bulk_row (xs ys : List (DataW H)) : xs.length ≤ Rows.uptoBulk (.slice xs ys) := by
  have := bulk_len xs
  simp only [Rows.uptoBulk]
  omega
theorem bulk_in {d : DataW H} : ∀ {l : List (DataW H)}, d ∈ l → Rows.uptoBulk d ≤ Rows.uptoBulkAll l
  | c :: l, h => by
    simp only [Rows.uptoBulkAll]
    rcases List.mem_cons.1 h with rfl | h
    · omega
    · have := bulk_in h
      omega
theorem bulk_at {l : List (DataW H)} (hk : Rows.uptoSmall H l = true) {j : Nat} {d : DataW H} (hd : l[j]? = some d) : Rows.uptoBulk d ≤ 1048576 :=
  Nat.le_trans (bulk_in (List.mem_of_getElem? hd)) (of_decide_eq_true hk)
end
end Go.Proofs.YtofbejppkldhnaaGreatDoor
namespace Go.Proofs.YtofbejppkldhnaaGreatDoor.G
open Go.ChangeShapes Go.WideShapes Go.ChangeAt Go.RowKit Go.Joins Go.Deep
set_option linter.unusedVariables false
set_option linter.unusedSimpArgs false
set_option maxRecDepth 100000

section
variable {H : Type} {enc : TypeId × Value → H} {W : World}
end
theorem bytes_row {w : World} {x : Addr} {len cap : Nat} {zs : List Int} (hl : len ≤ cap) (hz : zs.length = cap)
    (hc : ∀ i, i < zs.length → w.cell? (x.add i) = some (.int .u8 (zs.getD i 0))) (hw : ∀ n ∈ zs, (Lit.int .u8 n).wf = true) :
    ∃ l : List UInt8, l.length = len ∧ Rb w (some x) l := by
  have hbd : ∀ n ∈ zs, 0 ≤ n ∧ n < 256 := by
    intro n hn
    have := bounds_u8 (hw n hn)
    omega
  refine ⟨(zs.take len).map b8, by rw [List.length_map, List.length_take]; omega, ⟨fun hne => ?_⟩⟩
  have hlen : ((zs.take len).map b8).length = len := by rw [List.length_map, List.length_take]; omega
  have h0 : 0 < len := by
    apply Classical.byContradiction
    intro h
    have : len = 0 := by omega
    subst this
    simp at hne
  obtain ⟨b, off, spot⟩ := x
  have hspot : spot = none := by
    have := hc 0 (by omega)
    simp only [World.cell?, Addr.add] at this
    split at this
    · cases spot with
      | none => rfl
      | some s => simp at this
    · cases this
  subst hspot
  have hcj : ∀ j, j < len → w.cell? ⟨b, off + j, none⟩ = some (.int .u8 (((((zs.take len).map b8).getD j 0).toNat : Nat) : Int)) := by
    intro j hj
    have h1 := hc j (by omega)
    rw [Addr.add_lit] at h1
    rw [h1]
    have hjz : j < zs.length := by omega
    have h2 := hbd zs[j] (List.getElem_mem hjz)
    have e1 : zs.getD j 0 = zs[j] := by simp [hjz]
    have e2 : ((zs.take len).map b8).getD j 0 = b8 zs[j] := by simp [List.getD_eq_getElem?_getD, hj, hjz]
    rw [e1, e2, b8_val h2.1 h2.2]
  refine ⟨b, off, rfl, ?_, fun j hj => hcj j (by omega)⟩
  have := hcj 0 h0
  apply Classical.byContradiction
  intro h
  simp [World.cell?, Array.getElem?_eq_none (Nat.le_of_not_lt h)] at this
section
variable {H : Type} {enc : TypeId × Value → H} {W : World}
end
theorem Rb.take {w : World} {so : Option Addr} {l : List UInt8} (h : Rb w so l) (n : Nat) : Rb w so (l.take n) := by
  refine ⟨fun hne => ?_⟩
  obtain ⟨b, off, h1, h2, h3⟩ := h.pos (fun k => hne (by rw [k]; simp))
  refine ⟨b, off, h1, h2, fun j hj => ?_⟩
  rw [List.length_take] at hj
  rw [h3 j (by omega), List.getD_eq_getElem?_getD, List.getD_eq_getElem?_getD, List.getElem?_take_of_lt (by omega)]
section
variable {P : Program} {w : World} {l : List (Nat × Value)} {dst : Option Tmp} {ty : TypeId} {pos : String} {after : Array Edge} {guard : Option (Nat × Bool)}
end
def Nu.cells (y : Nu) : List Value := [.bool y.q.b1, .slice y.o1 y.q.t1.length y.c1, .slice y.o2 y.q.q1.length y.c2, .bool y.q.b2, .slice y.o3 y.q.t2.length y.c3, .slice y.o4 y.q.q2.length y.c4]
theorem cellD_lt {w : World} {b o : Nat} {v : Value} (h : w.cell? ⟨b, o, none⟩ = some v) : b < w.heap.size := by
  apply Classical.byContradiction
  intro k
  simp [World.cell?, Array.getElem?_eq_none (Nat.le_of_not_lt k)] at h
section
variable {H : Type} {enc : TypeId × Value → H} {W : World}
theorem bulk_agg (l : List (DataW H)) : Rows.uptoBulk (.agg l) = Rows.uptoBulkAll l + 1 := by simp only [Rows.uptoBulk]
theorem trodU_bytes {fuel : Nat} {v : Value} {x : DataW H × List MemPlace} (h : DataW.trod enc Tryz.prog W 0 (fun _ => true) true fuel 27 [v] = some x) : ∃ so cap l, v = .slice so (l : List UInt8).length cap ∧ Rb W so l ∧ l.length ≤ cap ∧ cap ≤ 9223372036854775807 ∧ l.length ≤ Rows.uptoBulk x.1 := by
  rcases open_ints Tryz.underlying27 Tryz.underlying5 (by kernel_rfl) h with ⟨hcs, _⟩ | ⟨x, l, c, zs, hcs, _, hl, hm, hz, hx, hcell, hwz⟩
  · simp only [List.cons.injEq, and_true] at hcs
    subst hcs
    exact ⟨none, 0, [], rfl, ⟨fun k => absurd rfl k⟩, Nat.le_refl _, by decide, Nat.zero_le _⟩
  · simp only [List.cons.injEq, and_true] at hcs
    subst hcs
    obtain ⟨us, e, ha⟩ := bytes_row hl (by simpa using hz) hcell hwz
    subst e
    subst hx
    refine ⟨_, _, us, rfl, ha, hl, hm, ?_⟩
    simp only [if_true] at hz
    refine Nat.le_trans ?_ (bulk_row _ _)
    simp only [lits, List.length_map, List.length_take, List.length_drop]
    omega
theorem trodU_words {fuel : Nat} {v : Value} {x : DataW H × List MemPlace} (h : DataW.trod enc Tryz.prog W 0 (fun _ => true) true fuel 22 [v] = some x) : ∃ ao c l, v = .slice ao (l : List Nat).length c ∧ Arg W ao c l ∧ l.length ≤ Rows.uptoBulk x.1 := by
  rcases open_ints Tryz.underlying22 Tryz.underlying81 (by kernel_rfl) h with ⟨hcs, _⟩ | ⟨x, l, c, zs, hcs, _, hl, hm, hz, hx, hcell, hwz⟩
  · cases hcs
    exact ⟨none, 0, [], rfl, arg_nil W, Nat.zero_le _⟩
  · cases hcs
    obtain ⟨us, e, ha⟩ := arg_row hl hm (by simpa using hz) hcell hwz
    subst e
    subst hx
    refine ⟨_, _, us, rfl, ha, ?_⟩
    simp only [if_true] at hz
    refine Nat.le_trans ?_ (bulk_row _ _)
    simp only [lits, List.length_map, List.length_take, List.length_drop]
    omega
theorem trodU_rat {fuel : Nat} {v0 v1 v2 : Value} {x : DataW H × List MemPlace} (h : DataW.trod enc Tryz.prog W 0 (fun _ => true) true fuel 24 [v0, v1, v2] = some x) : ∃ b o1 c1 l1 o2 c2 l2, v0 = .bool b ∧ v1 = .slice o1 (l1 : List Nat).length c1 ∧ v2 = .slice o2 (l2 : List Nat).length c2 ∧ Arg W o1 c1 l1 ∧ Arg W o2 c2 l2 ∧ l1.length + l2.length ≤ Rows.uptoBulk x.1 := by
  obtain ⟨y0, y1, y2, n, hx, _, h0, h1, h2⟩ := trod_struct3 Tryz.underlying24 h
  have e0 : Tryz.prog.cellsOf 4 = 1 := by kernel_rfl
  have e1 : Tryz.prog.cellsOf 22 = 1 := by kernel_rfl
  simp only [e0, e1, List.drop_zero, List.take_succ_cons, List.take_zero, List.drop_succ_cons] at h0 h1 h2
  obtain ⟨b, rfl⟩ := trod_bool h0
  obtain ⟨o1, c1, l1, rfl, a1, k1⟩ := trodU_words h1
  obtain ⟨o2, c2, l2, rfl, a2, k2⟩ := trodU_words h2
  refine ⟨b, o1, c1, l1, o2, c2, l2, rfl, rfl, rfl, a1, a2, ?_⟩
  rw [hx, bulk_agg]
  simp only [Rows.uptoBulkAll]
  omega
theorem trodU_num {fuel : Nat} {cs : List Value} {x : DataW H × List MemPlace} (hl : cs.length = 6) (h : DataW.trod enc Tryz.prog W 0 (fun _ => true) true fuel 26 cs = some x) :
    ∃ y : Nu, cs = y.cells ∧ y.nm W ∧ LenQ y.q ∧ y.q.t1.length + y.q.q1.length + (y.q.t2.length + y.q.q2.length) ≤ Rows.uptoBulk x.1 := by
  match cs, hl with
  | [v0, v1, v2, v3, v4, v5], _ =>
    obtain ⟨y0, y1, n, hx, _, h0, h1⟩ := trod_struct2 Tryz.underlying26 h
    have e : Tryz.prog.cellsOf 24 = 3 := by kernel_rfl
    simp only [e, List.drop_zero, List.take_succ_cons, List.take_zero, List.drop_succ_cons] at h0 h1
    obtain ⟨b1, o1, c1, l1, o2, c2, l2, rfl, rfl, rfl, a1, a2, k1⟩ := trodU_rat h0
    obtain ⟨b2, o3, c3, l3, o4, c4, l4, rfl, rfl, rfl, a3, a4, k2⟩ := trodU_rat h1
    refine ⟨⟨⟨b1, l1, l2, b2, l3, l4⟩, o1, c1, o2, c2, o3, c3, o4, c4⟩, rfl, ⟨⟨a1.rd, a1.nil, a1.caps⟩, ⟨a2.rd, a2.nil, a2.caps⟩, ⟨a3.rd, a3.nil, a3.caps⟩, ⟨a4.rd, a4.nil, a4.caps⟩⟩, ⟨a1.len, a2.len, a3.len, a4.len⟩, ?_⟩
    rw [hx, bulk_agg]
    simp only [Rows.uptoBulkAll]
    omega
/-- One datum, as it lies in a row of cells; and a list of them. -/
def OpenD (H : Type) (enc : TypeId × Value → H) (W : World) (fuel : Nat) : Prop := ∀ (cs : List Value) (x : DataW H × List MemPlace), DataW.trod enc Tryz.prog W 0 (fun _ => true) true fuel 30 cs = some x → ∃ t : Dt, cs = t.cells ∧ t.rd W ∧ t.tr.bulk ≤ Rows.uptoBulk x.1
theorem trodU_data {fuel : Nat} {v : Value} {x : DataW H × List MemPlace} (ih : ∀ n, n < fuel → OpenD H enc W n) (h : DataW.trod enc Tryz.prog W 0 (fun _ => true) true fuel 28 [v] = some x) :
    ∃ lo lc ts, v = .slice lo (ts : List Dt).length lc ∧ ts.length ≤ lc ∧ lc ≤ 9223372036854775807 ∧ Rt W lo ts ∧ (∀ t ∈ ts, t.rd W) ∧ Tr.bulks (ts.map Dt.tr) ≤ Rows.uptoBulk x.1 := by
  rcases DataW.trod_slice Tryz.underlying28 h with ⟨hcs, _⟩ | ⟨a, len, cap, elems, rest, n, hf, hcs, hx, _, hl, hm, hlen, hel, _, _⟩
  · simp only [List.cons.injEq, and_true] at hcs
    subst hcs
    exact ⟨none, 0, [], rfl, Nat.le_refl _, by decide, fun k => absurd rfl k, fun _ k => by simp at k, Nat.zero_le _⟩
  · simp only [List.cons.injEq, and_true] at hcs
    subst hcs
    rw [show Tryz.prog.cellsOf 30 = 11 from by kernel_rfl] at hel
    have each : ∀ i, ∃ t : Dt, i < len → t.rd W ∧ (∀ j v, t.cells[j]? = some v → W.cell? ((a.add (i * 11)).add j) = some v) ∧ ∃ y, elems[i]? = some y ∧ t.tr.bulk ≤ Rows.uptoBulk y.1 := by
      intro i
      by_cases hi : i < len
      · have h1 := hel i hi
        rw [List.getElem?_eq_getElem (by omega)] at h1
        obtain ⟨cs, h2, h3⟩ := Option.bind_eq_some_iff.1 h1
        obtain ⟨_, hlc, hcell⟩ := World.cells?_some h2
        obtain ⟨t, rfl, hr, hb⟩ := ih n (by omega) cs _ h3
        exact ⟨t, fun _ => ⟨hr, fun j v hj => by rw [hcell j (by have := (List.getElem?_eq_some_iff.1 hj).1; rw [hlc] at this; exact this)]; exact hj, _, List.getElem?_eq_getElem (by omega), hb⟩⟩
      · exact ⟨.mk ⟨0, 0, ⟨⟨false, [], [], false, [], []⟩, none, 0, none, 0, none, 0, none, 0⟩, ⟨#[]⟩, none, 0, [], none, 0⟩ [], fun k => absurd k hi⟩
    obtain ⟨F, hF⟩ := Classical.skolem.1 each
    have hget : ∀ (j : Nat) (q : Dt), ((List.range len).map F)[j]? = some q → j < len ∧ q = F j := by
      intro j q hq
      rw [List.getElem?_map] at hq
      obtain ⟨y, h1, h2⟩ := Option.map_eq_some_iff.1 hq
      obtain ⟨h3, h4⟩ := List.getElem?_eq_some_iff.1 h1
      rw [List.length_range] at h3
      rw [List.getElem_range] at h4
      subst h4
      exact ⟨h3, h2.symm⟩
    refine ⟨some a, cap, (List.range len).map F, by simp, by simpa using hl, hm, fun hne => ?_, fun t ht => ?_, ?_⟩
    · have hn : 0 < len := by
        apply Classical.byContradiction
        intro k
        exact hne (by rw [show len = 0 from by omega]; rfl)
      obtain ⟨b, off, spot⟩ := a
      have h0 := (hF 0 hn).2.1 0 _ rfl
      have hspot : spot = none := by simpa [Addr.add] using World.cell?_spot h0
      subst hspot
      refine ⟨b, off, rfl, fun i t hi => ?_⟩
      obtain ⟨hlt, rfl⟩ := hget i t hi
      have hat : ∀ j v, (F i).cells[j]? = some v → W.cell? ⟨b, off + i * 11 + j, none⟩ = some v := fun j v hj => by
        have := (hF i hlt).2.1 j v hj
        rwa [Addr.add_lit, Addr.add_lit] at this
      exact ⟨cellD_lt (hat 0 _ rfl), hat⟩
    · obtain ⟨j, hj⟩ := List.mem_iff_getElem?.1 ht
      obtain ⟨h1, rfl⟩ := hget j t hj
      exact (hF j h1).1
    · rw [hx]
      have key : ∀ m, m ≤ len → Tr.bulks (((List.range m).map F).map Dt.tr) ≤ Rows.uptoBulkAll ((elems.map (·.1)).take m) := by
        intro m
        induction m with
        | zero => intro _; simp [Tr.bulks]
        | succ m ih2 =>
          intro hm2
          have hs : ∀ (l : List Tr) (t : Tr), Tr.bulks (l ++ [t]) = Tr.bulks l + t.bulk := by
            intro l t
            induction l with
            | nil => simp [Tr.bulks]
            | cons u l ih3 => simp only [List.cons_append, Tr.bulks, ih3]; omega
          have hu : ∀ (l : List (DataW H)) (d : DataW H), Rows.uptoBulkAll (l ++ [d]) = Rows.uptoBulkAll l + Rows.uptoBulk d := by
            intro l d
            induction l with
            | nil => simp [Rows.uptoBulkAll]
            | cons u l ih3 => simp only [List.cons_append, Rows.uptoBulkAll, ih3]; omega
          obtain ⟨_, _, y, hy, hb⟩ := hF m (by omega)
          have := ih2 (by omega)
          rw [List.range_succ, List.map_append, List.map_append, List.take_add_one, List.getElem?_map, hy]
          simp only [List.map_cons, List.map_nil, Option.map_some, Option.toList_some]
          rw [hs, hu]
          omega
      have h1 := key len (Nat.le_refl _)
      rw [List.take_of_length_le (by rw [List.length_map]; omega)] at h1
      simp only [Rows.uptoBulk]
      omega
theorem open_dt : ∀ fuel, OpenD H enc W fuel := by
  intro fuel
  induction fuel using Nat.strongRecOn with
  | ind fuel ih =>
    intro cs x h
    obtain ⟨xs, n, hfu, hx, hl, hxl, hf⟩ := DataW.trod_struct Tryz.underlying30 h
    rw [show Tryz.prog.cellsOf 30 = 11 from by kernel_rfl] at hl
    match cs, hl with
    | [v0, v1, v2, v3, v4, v5, v6, v7, v8, v9, v10], _ =>
      match xs, hxl with
      | [x0, x1, x2, x3, x4, x5], _ =>
        have g0 := hf 0 _ rfl
        have g1 := hf 1 _ rfl
        have g2 := hf 2 _ rfl
        have g3 := hf 3 _ rfl
        have g4 := hf 4 _ rfl
        have g5 := hf 5 _ rfl
        have c1 : Tryz.prog.cellsOf 3 = 1 := by kernel_rfl
        have c2 : Tryz.prog.cellsOf 26 = 6 := by kernel_rfl
        have c3 : Tryz.prog.cellsOf 9 = 1 := by kernel_rfl
        have c4 : Tryz.prog.cellsOf 27 = 1 := by kernel_rfl
        have c5 : Tryz.prog.cellsOf 28 = 1 := by kernel_rfl
        simp only [c1, c2, c3, c4, c5, List.drop_zero, List.take_succ_cons, List.take_zero, List.drop_succ_cons, List.getElem?_cons_zero, List.getElem?_cons_succ] at g0 g1 g2 g3 g4 g5
        obtain ⟨k, e0, _, w0⟩ := DataW.trod_int Tryz.underlying3 g0
        obtain ⟨m, e1, _, w1⟩ := DataW.trod_int Tryz.underlying3 g1
        obtain ⟨y, e2, hy, hq, b2⟩ := trodU_num rfl g2
        obtain ⟨s, e3, hs, hsm⟩ := DataW.trod_string Tryz.underlying9 g3
        obtain ⟨ro, rc, rl, e4, hr, hrc, hrm, b4⟩ := trodU_bytes g4
        obtain ⟨lo, lc, ts, e5, hlc, hlm, hrt, hrd, b5⟩ := trodU_data (fun n' hn' => ih n' (by omega)) g5
        have bk := bounds_i64 w0
        have bm := bounds_i64 w1
        refine ⟨.mk ⟨k, m, y, s, ro, rc, rl, lo, lc⟩ ts, ?_, ?_, ?_⟩
        · injection e0 with f0
          injection e1 with f1
          injection e3 with f3
          injection e2 with e20 g
          injection g with e21 g
          injection g with e22 g
          injection g with e23 g
          injection g with e24 g
          injection g with e25 g
          subst f0 f1 f3 e4 e5 e20 e21 e22 e23 e24 e25
          rfl
        · rw [Dt.rd_iff]
          exact ⟨⟨hy, hq, hr, hrc, hrm, bk.1, bk.2, bm.1, bm.2, hsm⟩, hlc, hlm, hrt, hrd⟩
        · rw [Dt.tr_mk, trbulk_mk, hx, bulk_agg]
          have h3 : Rows.uptoBulk x3.1 = s.size + 1 := by
            rw [hs]
            rw [show Rows.uptoBulk (DataW.lit (H := H) (.string s.data.toList)) = s.data.toList.length + 1 from by simp only [Rows.uptoBulk], Array.length_toList]
            rfl
          simp only [List.map_cons, List.map_nil, Rows.uptoBulkAll]
          have := bulk_pos x0.1
          omega
theorem open_datum {base : Nat} {v : Value} {d : DataW H} {p : List MemPlace} (hv : Value.okWide Tryz.prog W .any base 30 v) (h : DataW.Trod enc Tryz.prog W 0 (fun _ => true) true 30 v d p) :
    ∃ t : Dt, v = .agg t.cells.toArray ∧ t.rd W ∧ t.tr.bulk ≤ Rows.uptoBulk d := by
  obtain ⟨cs, rfl, hsz⟩ := okWide_struct Tryz.underlying30 hv
  obtain ⟨fuel, hf⟩ := h
  obtain ⟨t, e, hr, hb⟩ := open_dt fuel _ _ hf
  refine ⟨t, ?_, hr, hb⟩
  rw [← e]
  rfl
theorem open_data {base : Nat} {v : Value} {d : DataW H} {p : List MemPlace} (hv : Value.okWide Tryz.prog W .any base 28 v) (h : DataW.Trod enc Tryz.prog W 0 (fun _ => true) true 28 v d p) :
    ∃ lo lc ts, v = .slice lo (ts : List Dt).length lc ∧ ts.length ≤ lc ∧ Rt W lo ts ∧ (∀ t ∈ ts, t.rd W) ∧ Tr.bulks (ts.map Dt.tr) ≤ Rows.uptoBulk d := by
  obtain ⟨a, n, c, rfl⟩ := okWide_slice Tryz.underlying28 hv
  obtain ⟨fuel, hf⟩ := h
  obtain ⟨lo, lc, ts, e, h1, _, h2, h3, h4⟩ := trodU_data (v := .slice a n c) (fun n _ => open_dt n) hf
  exact ⟨lo, lc, ts, e, h1, h2, h3, h4⟩
end
end Go.Proofs.YtofbejppkldhnaaGreatDoor.G
