/- Units and characters as rows; what the document's Encode does unit by unit. -/
import Derived.Test.YtcjgjbaadmohbaaCoZ
import Derived.Lib.ConvBytes
namespace Go.Proofs.Ytcjgjbaadmohbaa
open Go.RowKit Go.Lib
set_option linter.unusedVariables false
set_option linter.unusedSimpArgs false

theorem owns_sliceE {w : World} {B : Nat} {e : TypeId} {sz : Nat} {v : Value} {n : Nat} {xs : List Value} (h : w.ownsRow B e sz v n xs) : ∃ so cap, v = .slice so n cap := by
  rcases h.2 with ⟨rfl, rfl⟩ | ⟨g, cap, cur, rfl, _⟩
  · exact ⟨none, 0, rfl⟩
  · exact ⟨_, cap, rfl⟩
section
variable {P : Program} {w0 w : World} {L : List Ck} {l : List (Nat × Value)} {dst : Option Tmp} {ty : TypeId} {pos : String} {after : Array Edge} {guard : Option (Nat × Bool)} {v : Value}
theorem row_addr (hM : Mg w0 w L) (k : Nat) {e : TypeId} {sz n cap : Nat} {so : Option Addr} {xs : List Value} (hk : L[k]? = some (.row e sz (.slice so n cap) n xs)) (hn : 0 < n) : ∃ g, so = some ⟨g, 0, none⟩ := by
  rcases (hM.has k hk).2 with ⟨_, h0⟩ | ⟨g, cap', cur, he, _⟩
  · omega
  · cases he; exact ⟨g, rfl⟩
theorem does_indexX {t e : TypeId} {sz : Nat} (hu : P.underlying t = some (.slice e)) (he : (P.info? e).map (·.size) = some sz) {x i : Operand} {so : Option Addr} {g n c k : Nat} {z : Int} (hx : ev l x = some (.slice so n c)) (hi : ev l i = some (.int .i64 z)) (hz : z = (k : Nat)) (hso : so = some ⟨g, 0, none⟩) (hk : k < n) :
    Does P l ⟨dst, .indexAddr t x i, ty, pos, after, guard⟩ w (.pointer (some ⟨g, k * sz, none⟩)) w := by
  subst hso
  exact does_indexE hu he hx hi hz hk
theorem m_loadX (hM : Mg w0 w L) (k : Nat) {e : TypeId} {sz g n c j : Nat} {so : Option Addr} {xs : List Value} (hk : L[k]? = some (.row e sz (.slice so n c) n xs)) (hso : so = some ⟨g, 0, none⟩) (hj : xs[j]? = some v) {t : TypeId} (ht : Is1 P t) {x : Operand} (hx : ev l x = some (.pointer (some ⟨g, j, none⟩))) : Does P l ⟨dst, .load t x, ty, pos, after, guard⟩ w v w := by
  subst hso
  exact m_loadE hM k hk hj ht hx
theorem m_loadXS (hM : Mg w0 w L) (k : Nat) {e : TypeId} {sz g n c o m : Nat} {so : Option Addr} {xs cs : List Value} (hk : L[k]? = some (.row e sz (.slice so n c) n xs)) (hso : so = some ⟨g, 0, none⟩) {t : TypeId} (ht : IsS P t m) (hcs : (xs.drop o).take m = cs) (hl : cs.length = m) {x : Operand} (hx : ev l x = some (.pointer (some ⟨g, o, none⟩))) : Does P l ⟨dst, .load t x, ty, pos, after, guard⟩ w (.agg cs.toArray) w := by
  subst hso
  exact m_loadES hM k hk ht hcs hl hx
end
section
variable {P : Program} {w0 w : World} {L : List Ck} {l : List (Nat × Value)} {ops : List Oper} {Q : Exit → Act → World → Prop} {a : Act} {n : Nat} {rest : List Oper} {d : Nat} {dst : Option Tmp} {ty : TypeId} {pos : String} {after : Array Edge} {guard : Option (Nat × Bool)}
/-- A text as bytes. -/
theorem s_bytes (hA : Sl a n l) (hM : Mg w0 w L) {t t' : TypeId} {x : Operand} {s : ByteArray} {o : Oper} (ho : o = ⟨dst, .convert t t' x, ty, pos, after, guard⟩) (ht : P.underlying t = some .string) (hd : P.underlying t' = some (.slice BY)) (he : P.underlying BY = some (.int .u8)) (hx : ev l x = some (.string s)) (hg : passes l ops o = true) (hdst : o.dst = some d) (hdn : Nat.blt d n = true)
    (hk : ∀ so cap w', Rb w' so s.data.toList → Mg w0 w' L → ∀ a', Sl a' n ((d, .slice so s.data.toList.length cap) :: l) → wpList P ops.toArray Q rest a' w') : wpList P ops.toArray Q (o :: rest) a w := by
  subst ho
  have hr := Go.Lib.run_convert_string_bytes (P := P) w t t' BY s ht hd he
  have hb : Below w.heap.size w (bytesWorld w BY s) := ⟨rfl, rfl, rfl, by rw [bytesWorld_size]; omega, fun j hj => bytesWorld_at_old w BY s j hj⟩
  refine seq_do hA hg hdst hdn (v := .slice (some ⟨w.heap.size, 0, none⟩) s.data.toList.length (grownCap w s.size 0 BY)) (w' := bytesWorld w BY s) (does_convC hx (by rw [size_toList]; exact hr)) (hk _ _ _ ⟨fun _ => ⟨w.heap.size, 0, rfl, by rw [bytesWorld_size]; omega, fun j hj => ?_⟩⟩ (hM.call hb))
  rw [size_toList] at hj
  rw [Nat.zero_add]
  exact bytesWorld_cell w BY s j hj
end
theorem unitV_cons (u : Int × Int) (us : List (Int × Int)) : unitV (u :: us) = (if u.2 = -1 then [.int .i32 0, .bool true, .int .i64 u.1] else [.int .i32 u.2, .bool false, .int .i64 u.1]) ++ unitV us := rfl
theorem unitV_at : ∀ (us : List (Int × Int)) (i f : Nat) (u : Int × Int), us[i]? = some u → f < 3 → (unitV us)[i * 3 + f]? = (if u.2 = -1 then [Value.int .i32 0, .bool true, .int .i64 u.1] else [.int .i32 u.2, .bool false, .int .i64 u.1])[f]?
  | [], i, f, u, h, hf => by simp at h
  | v :: us, 0, f, u, h, hf => by
    simp only [List.getElem?_cons_zero, Option.some.injEq] at h
    subst h
    rw [unitV_cons, Nat.zero_mul, Nat.zero_add, List.getElem?_append_left]
    split <;> exact hf
  | v :: us, i + 1, f, u, h, hf => by
    rw [List.getElem?_cons_succ] at h
    rw [unitV_cons, List.getElem?_append_right (by split <;> (simp only [List.length_cons, List.length_nil]; omega))]
    have e : (i + 1) * 3 + f - (if v.2 = -1 then [Value.int .i32 0, .bool true, .int .i64 v.1] else [.int .i32 v.2, .bool false, .int .i64 v.1]).length = i * 3 + f := by
      split <;> (simp only [List.length_cons, List.length_nil]; omega)
    rw [e]
    exact unitV_at us i f u h hf
theorem unit_bad {us : List (Int × Int)} {i f : Nat} {ua ur : Int} (h : us[i]? = some (ua, ur)) (hr : ur = -1) (hf : f < 3) : (unitV us)[i * 3 + f]? = [Value.int .i32 0, .bool true, .int .i64 ua][f]? := by
  rw [unitV_at us i f _ h hf, if_pos hr]
theorem unit_good {us : List (Int × Int)} {i f : Nat} {ua ur : Int} (h : us[i]? = some (ua, ur)) (hr : ur ≠ -1) (hf : f < 3) : (unitV us)[i * 3 + f]? = [Value.int .i32 ur, .bool false, .int .i64 ua][f]? := by
  rw [unitV_at us i f _ h hf, if_neg hr]
theorem rune_at {ls : List Int} {j : Nat} (h : j < ls.length) : (runeV ls)[j * 1]? = some (.int .i32 (ls.getD j 0)) := by
  unfold runeV
  rw [Nat.mul_one, List.getElem?_map, List.getElem?_eq_getElem h, Option.map_some, List.getD_eq_getElem?_getD, List.getElem?_eq_getElem h]
  rfl
theorem unit_get {us : List (Int × Int)} {i : Nat} (h : i < us.length) : ∃ ua ur, us[i]? = some (ua, ur) := ⟨_, _, List.getElem?_eq_getElem h⟩
theorem drop_unit {us : List (Int × Int)} {i : Nat} {u : Int × Int} (h : us[i]? = some u) : us.drop i = u :: us.drop (i + 1) := by
  obtain ⟨h1, h2⟩ := List.getElem?_eq_some_iff.1 h
  rw [List.drop_eq_getElem_cons h1, h2]
/-! ### Encode -/
theorem eols_chars (k : Int) : charsL (lineEndS k).data.toList = eolsS k := by
  unfold lineEndS eolsS
  by_cases h2 : k = 2
  · rw [if_pos h2, if_pos h2]; decide +kernel
  by_cases h3 : k = 3
  · rw [if_neg h2, if_neg h2, if_pos h3, if_pos h3]; decide +kernel
  by_cases h4 : k = 4
  · rw [if_neg h2, if_neg h2, if_neg h3, if_neg h3, if_pos h4, if_pos h4]; decide +kernel
  by_cases h5 : k = 5
  · rw [if_neg h2, if_neg h2, if_neg h3, if_neg h3, if_neg h4, if_neg h4, if_pos h5, if_pos h5]; decide +kernel
  · rw [if_neg h2, if_neg h2, if_neg h3, if_neg h3, if_neg h4, if_neg h4, if_neg h5, if_neg h5]; decide +kernel
section
variable {c m : Int} {acc : List UInt8} {at_ x : Int} {rest : List (Int × Int)}
theorem run_put (h1 : x ≠ -1) (h2 : hasS c x = true) : runV (cstep (putC c) m (subS c)) (acc, 0, 0) ((at_, x) :: rest) = runV (cstep (putC c) m (subS c)) (acc ++ encC c x, 0, 0) rest := by
  have e : cstep (putC c) m (subS c) (acc, 0, 0) at_ x = ((acc ++ encC c x, 0, 0), true) := by
    have h := putC_yes (xs := acc) h2
    rw [cstep_put h1 (by rw [h]), h]
  rw [runV_go (by rw [e]), e]
theorem run_bad0 (hm : m = 0) (h : x = -1 ∨ hasS c x = false) : runV (cstep (putC c) m (subS c)) (acc, 0, 0) ((at_, x) :: rest) = (acc, at_, 6) := by
  subst hm
  have e : cstep (putC c) 0 (subS c) (acc, 0, 0) at_ x = ((acc, at_, 6), false) := by
    unfold cstep
    by_cases h1 : x = -1
    · rw [if_pos h1, if_pos rfl]
    · have h2 := putC_no (xs := acc) (h.resolve_left h1)
      simp only [if_neg h1, h2, Bool.false_eq_true, if_false, if_true]
  rw [runV_stop (by rw [e]), e]
theorem has_sub (c : Int) : hasS c (subS c) = true := by
  unfold hasS subS
  by_cases h : c = 2
  · subst h; decide
  · simp [h]
theorem run_bad1 (hm : m = 1) (h : x = -1 ∨ hasS c x = false) : runV (cstep (putC c) m (subS c)) (acc, 0, 0) ((at_, x) :: rest) = runV (cstep (putC c) m (subS c)) (acc ++ encC c (subS c), 0, 0) rest := by
  subst hm
  have k := putC_yes (xs := acc) (has_sub c)
  have e : cstep (putC c) 1 (subS c) (acc, 0, 0) at_ x = ((acc ++ encC c (subS c), 0, 0), true) := by
    unfold cstep
    by_cases h1 : x = -1
    · rw [if_pos h1, if_neg (by decide), if_pos rfl, k]
    · have h2 := putC_no (xs := acc) (h.resolve_left h1)
      simp only [if_neg h1, h2, k, Bool.false_eq_true, if_false, if_true, show ¬ ((1 : Int) = 0) by decide]
  rw [runV_go (by rw [e]), e]
theorem run_bad2 (hm : m ≠ 0) (hm1 : m ≠ 1) (h : x = -1 ∨ hasS c x = false) : runV (cstep (putC c) m (subS c)) (acc, 0, 0) ((at_, x) :: rest) = runV (cstep (putC c) m (subS c)) (acc, 0, 0) rest := by
  have e : cstep (putC c) m (subS c) (acc, 0, 0) at_ x = ((acc, 0, 0), true) := by
    unfold cstep
    by_cases h1 : x = -1
    · rw [if_pos h1, if_neg hm, if_neg hm1]
    · have h2 := putC_no (xs := acc) (h.resolve_left h1)
      simp only [if_neg h1, h2, Bool.false_eq_true, if_false, if_neg hm, if_neg hm1]
  rw [runV_go (by rw [e]), e]
theorem sub_two (h : c = 2) : encC c (subS c) = [63] := by subst h; decide +kernel
theorem sub_else (h : c ≠ 2) : subS c = 65533 := if_neg h
end
/-- What a unit is written as. -/
def usU (k : Int) (u : Int × Int) : List (Int × Int) := if u.2 = 10 then (eolsS k).map (fun x => (u.1, x)) else [u]
theorem expand_us (k : Int) (u : Int × Int) (us : List (Int × Int)) : expand (eolsS k) (u :: us) = usU k u ++ expand (eolsS k) us := by
  unfold expand usU
  rw [List.flatMap_cons]
theorem us_ten {k ua ur : Int} (h : ur = 10) {j : Nat} (hj : j < (eolsS k).length) : (usU k (ua, ur)).drop j = (ua, (eolsS k).getD j 0) :: (usU k (ua, ur)).drop (j + 1) := by
  unfold usU
  rw [if_pos h, List.drop_eq_getElem_cons (by rw [List.length_map]; exact hj), List.getElem_map, List.getD_eq_getElem?_getD, List.getElem?_eq_getElem hj]
  rfl
theorem us_ten_over {k ua ur : Int} (h : ur = 10) {j : Nat} (hj : ¬ j < (eolsS k).length) : (usU k (ua, ur)).drop j = [] := by
  unfold usU
  rw [if_pos h, List.drop_eq_nil_of_le (by rw [List.length_map]; omega)]
theorem us_one {k ua ur : Int} (h : ur ≠ 10) {j : Nat} (hj : j = 0) : (usU k (ua, ur)).drop j = (ua, ur) :: (usU k (ua, ur)).drop (j + 1) := by
  subst hj
  unfold usU
  rw [if_neg h]
  rfl
theorem us_oneL {k ua ur : Int} (h : ur ≠ 10) {j : Nat} (hj : j = 0) : (usU k (ua, ur)).drop j = (ua, ([ur] : List Int).getD j 0) :: (usU k (ua, ur)).drop (j + 1) := by
  subst hj
  exact us_one h rfl
theorem us_one_over {k ua ur : Int} (h : ur ≠ 10) {j : Nat} (hj : 1 ≤ j) : (usU k (ua, ur)).drop j = [] := by
  unfold usU
  rw [if_neg h, List.drop_eq_nil_of_le (by simpa using hj)]
theorem eols_len (k : Int) : 1 ≤ (eolsS k).length ∧ (eolsS k).length ≤ 2 := by
  unfold eolsS
  repeat' split
  all_goals decide
theorem eols_ok (k : Int) (j : Nat) (hj : j < (eolsS k).length) : OkC ((eolsS k).getD j 0) ∧ (eolsS k).getD j 0 ≠ -1 := by
  have key : ∀ x ∈ eolsS k, OkC x ∧ x ≠ -1 := by
    intro x hx
    unfold eolsS at hx
    unfold OkC
    repeat' split at hx
    all_goals (simp at hx; omega)
  rw [List.getD_eq_getElem?_getD, List.getElem?_eq_getElem hj]
  exact key _ (List.getElem_mem hj)
theorem ok_zero : OkC 0 := by unfold OkC; omega
theorem ok_unit {us : List (Int × Int)} {i : Nat} {ua ur : Int} (hok : ∀ u ∈ us, OkU u.2) (h : us[i]? = some (ua, ur)) (hr : ur ≠ -1) : OkC ur := by
  have := hok _ (List.mem_of_getElem? h)
  unfold OkU at this
  unfold OkC
  simp only at this
  omega
theorem encC_pos {c r : Int} (hr : OkC r) : 0 < (encC c r).length := by
  unfold encC
  split
  · exact Nat.zero_lt_succ _
  · split
    · split <;> exact Nat.zero_lt_succ _
    · exact List.length_pos_iff.2 (enc_some hr)
theorem rput_has {w : World} {c r : Int} (hc : 1 ≤ c ∧ c ≤ 3) (hr : OkC r) (h : hasS c r = true) : Calls Try.prog 51 #[.int .i64 c, .int .i32 r] w fun e w' => ∃ v, e = .returned v ∧ Mg w w' [.row BY 1 v (encC c r).length (Lib.byteCells (encC c r))] := by
  have k := rput_any (w := w) hc hr
  rw [show rputS c r = encC c r from if_pos h] at k
  exact k
theorem rput_not {w : World} {c r : Int} (hc : 1 ≤ c ∧ c ≤ 3) (hr : OkC r) (h : hasS c r = false) : Calls Try.prog 51 #[.int .i64 c, .int .i32 r] w fun e w' => ∃ v, e = .returned v ∧ Mg w w' [.row BY 1 v 0 (Lib.byteCells [])] := by
  have k := rput_any (w := w) hc hr
  rw [show rputS c r = [] from if_neg (by rw [h]; decide)] at k
  exact k
theorem encS_arg {c k m : Int} {s : ByteArray} (h : checkS c k m ≠ 0) : encS c k m s = ([], 0, 1) := by
  unfold encS refS
  rw [if_neg h, if_pos (by decide)]
theorem encS_large {c k m : Int} {s : ByteArray} (h : checkS c k m = 0) (hs : 65536 < s.size) : encS c k m s = ([], 0, 4) := by
  unfold encS refS
  rw [if_pos h, if_pos hs, if_pos (by decide)]
theorem encS_go {c k m : Int} {s : ByteArray} {R : List UInt8 × Int × Int} (h : checkS c k m = 0) (hs : ¬ 65536 < s.size) (hR : runV (cstep (putC c) m (subS c)) ([], 0, 0) (expand (eolsS k) (unitsU s.data.toList)) = R) : encS c k m s = if R.2.2 ≠ 0 then ([], R.2.1, R.2.2) else (R.1, 0, 0) := by
  have e : encR c k m s = R := by unfold encR; rw [eols_chars]; exact hR
  unfold encS refS
  rw [if_pos h, if_neg hs, if_neg (by decide), e]
theorem check_in {c k m : Int} (h : checkS c k m = 0) : (1 ≤ c ∧ c ≤ 3) ∧ (0 ≤ k ∧ k ≤ 5) ∧ 0 ≤ m ∧ m ≤ 2 := by
  unfold checkS at h
  split at h
  · omega
  · cases h
theorem units_lenF : ∀ (f p : Nat) (l : List UInt8), (unitsF f p l).length ≤ l.length
  | 0, _, _ => Nat.zero_le _
  | f + 1, p, l => by
    by_cases hl : l = []
    · subst hl; simp [unitsF]
    · rw [unitsF_cons hl, List.length_cons]
      have h1 := units_lenF f (p + (decodeL l).2) (l.drop (decodeL l).2)
      have h2 := decode_wide l hl
      rw [List.length_drop] at h1
      omega
theorem units_okU (l : List UInt8) : ∀ u ∈ unitsU l, OkU u.2 := by
  have h := units_ok 1 l
  have e : unitsC 1 l = unitsU l := by unfold unitsC; rw [if_pos rfl]
  rw [e] at h
  exact h
end Go.Proofs.Ytcjgjbaadmohbaa
