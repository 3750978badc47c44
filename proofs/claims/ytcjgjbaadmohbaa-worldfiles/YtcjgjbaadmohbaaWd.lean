/- Walks of what world uses of slices. -/
import Derived.Test.YtcjgjbaadmohbaaWc
import Derived.Test.YtcjgjbaadmohbaaMx
namespace Go.Proofs.Ytcjgjbaadmohbaa
open Go.RowKit
set_option linter.unusedVariables false
set_option linter.unusedSimpArgs false
set_option maxRecDepth 100000
theorem Wd_is1_24 : Is1 Try.prog 24 := ⟨⟨_, Try.underlying24, rfl⟩, by kernel_rfl⟩
theorem take_some {xs : List Value} {k j : Nat} {u : Value} (h : (xs.take k)[j]? = some u) : xs[j]? = some u := by
  rw [List.getElem?_take] at h
  split at h
  · exact h
  · cases h
theorem does_fromI {P : Program} {w : World} {l : List (Nat × Value)} {dst : Option Tmp} {ty : TypeId} {pos : String} {after : Array Edge} {guard : Option (Nat × Bool)} {t e : TypeId} {sz : Nat} (ht : P.underlying t = some (.slice e)) (he : (P.info? e).map (·.size) = some sz) {x y : Operand} {g n cap lo : Nat} {z : Int} (hx : ev l x = some (.slice (some ⟨g, 0, none⟩) n cap)) (hy : ev l y = some (.int .i64 z)) (hz : z = ((lo : Nat) : Int)) (hp : lo ≤ n) : Does P l ⟨dst, .slice t x (some y) none none, ty, pos, after, guard⟩ w (.slice (if cap = lo then some ⟨g, 0, none⟩ else some ⟨g, lo * sz, none⟩) (n - lo) (cap - lo)) w := by
  have h := does_anyFrom (w := w) (dst := dst) (ty := ty) (pos := pos) (after := after) (guard := guard) ht he hx hy hz hp
  by_cases k : cap = lo
  · rw [if_pos k] at h ⊢; exact h
  · rw [if_neg k] at h ⊢
    rw [Option.map_some, addr_add, Nat.zero_add] at h
    exact h
theorem does_s2q {P : Program} {w : World} {l : List (Nat × Value)} {dst : Option Tmp} {ty : TypeId} {pos : String} {after : Array Edge} {guard : Option (Nat × Bool)} {t e : TypeId} {sz : Nat} (ht : P.underlying t = some (.slice e)) (he : (P.info? e).map (·.size) = some sz) {x y1 y2 : Operand} {g n cap lo hi q : Nat} {z1 z2 : Int} (hx : ev l x = some (.slice (some ⟨g, 0, none⟩) n cap)) (hy1 : ev l y1 = some (.int .i64 z1)) (hy2 : ev l y2 = some (.int .i64 z2)) (hz1 : z1 = ((lo : Nat) : Int)) (hz2 : z2 = ((hi : Nat) : Int)) (h1 : lo ≤ hi) (h2 : hi ≤ cap) (hne : cap ≠ lo) (hq : hi - lo = q) : Does P l ⟨dst, .slice t x (some y1) (some y2) none, ty, pos, after, guard⟩ w (.slice (some ⟨g, lo * sz, none⟩) q (cap - lo)) w := by
  subst hq
  exact does_s2 ht he hx hy1 hy2 hz1 hz2 h1 h2 hne
theorem ins_end {xs : List Value} {i n : Nat} {z : List Value} (hl : xs.length = n * 2) (hi : i = n) : xs ++ z = xs.take (i * 2) ++ z ++ xs.drop (i * 2) := by
  subst hi
  rw [List.take_of_length_le (by omega), List.drop_eq_nil_of_le (by omega), List.append_nil]
theorem ins_mid {xs zs : List Value} {i n : Nat} {a b : Value} (hl : xs.length = n * 2) (hi : i < n) (hz : zs.length = (n + 1 - i) * 2) : over (over (xs.take (i * 2) ++ zs) (i * 2) [a, b]) ((i + 1) * 2) (xs.drop (i * 2)) = xs.take (i * 2) ++ [a, b] ++ xs.drop (i * 2) := by
  have h1 : (xs.take (i * 2)).length = i * 2 := by rw [List.length_take]; omega
  have h2 : (over (xs.take (i * 2) ++ zs) (i * 2) [a, b]) = xs.take (i * 2) ++ [a, b] ++ zs.drop 2 := by
    rw [over_eq (by rw [List.length_append, h1]; simp only [List.length_cons, List.length_nil]; omega), List.take_append_of_le_length (by omega), List.take_of_length_le (by omega), List.drop_append, List.drop_eq_nil_of_le (by omega), List.nil_append, h1]
    congr 2
    simp only [List.length_cons, List.length_nil]
    omega
  rw [h2]
  have h3 : (xs.take (i * 2) ++ [a, b]).length = (i + 1) * 2 := by rw [List.length_append, h1]; simp only [List.length_cons, List.length_nil]; omega
  have e1 : (xs.take (i * 2) ++ [a, b] ++ zs.drop 2).take ((i + 1) * 2) = xs.take (i * 2) ++ [a, b] := by rw [List.take_append_of_le_length (by omega), List.take_of_length_le (by omega)]
  have e2 : (xs.take (i * 2) ++ [a, b] ++ zs.drop 2).drop ((i + 1) * 2 + (xs.drop (i * 2)).length) = [] := List.drop_eq_nil_of_le (by rw [List.length_append, h3, List.length_drop, List.length_drop]; omega)
  rw [over_eq (by rw [List.length_append, h3, List.length_drop, List.length_drop]; omega), e1, e2, List.append_nil]
theorem insert_any {w0 w : World} {g gv n i : Nat} {xs : List Value} {X : List Ck} (hn : n ≤ 64) (hi : i ≤ n) (hx1 : ∀ u ∈ xs, u.oneCell' = true) (hM0 : Mg w0 w (.row 88 2 (.slice (some ⟨g, 0, none⟩) n n) n xs :: .row 88 2 (.slice (some ⟨gv, 0, none⟩) 1 1) 1 [.string ⟨#[]⟩, .slice none 0 0] :: X)) : Calls Try.prog 55 #[.slice (some ⟨g, 0, none⟩) n n, .int .i64 ((i : Nat) : Int), .slice (some ⟨gv, 0, none⟩) 1 1] w fun e w' => ∃ g2 cap2, e = .returned (.slice (some ⟨g2, 0, none⟩) (n + 1) cap2) ∧ Mg w0 w' (.row 88 2 (.slice (some ⟨g2, 0, none⟩) (n + 1) cap2) (n + 1) (xs.take (i * 2) ++ [.string ⟨#[]⟩, .slice none 0 0] ++ xs.drop (i * 2)) :: X) := by
 have hxl : xs.length = n * 2 := (hM0.has 0 rfl).1
 have hM : Mg w0 w (.row 88 2 (.slice (some ⟨g, 0, none⟩) n n) n xs :: .row 88 2 (.slice (some ⟨gv, 0, none⟩) 1 1) 1 ([.string ⟨#[]⟩, .slice none 0 0]) :: X) := hM0
 refine walk_of (l := [(0, .slice (some ⟨g, 0, none⟩) n n), (1, .int .i64 (((i : Nat) : Int))), (2, .slice (some ⟨gv, 0, none⟩) 1 1)]) Try.func55 rfl Try.ntmps55 rfl rfl ?_
 intro Q hret hnorm hP a hA
 refine wp_seq_k (fun K1 hK1 => ?_)
 refine wp_region_lit ?_
 refine seq_do hA rfl rfl rfl (does_assign rfl) ?_
 intro a hA
 refine seq_end ?_
 refine hK1 _ _ ?_
 refine wp_seq_k (fun K2 hK2 => ?_)
 refine wp_region_lit ?_
 refine seq_do hA rfl rfl rfl (does_move rfl) ?_
 intro a hA
 refine seq_do hA rfl rfl rfl (does_move rfl) ?_
 intro a hA
 refine seq_do (v := .slice (if n = i then some ⟨g, 0, none⟩ else some ⟨g, i * 2, none⟩) (n - i) (n - i)) hA rfl rfl rfl (does_fromI Try.underlying35 (by kernel_rfl) rfl rfl rfl (by omega)) ?_
 intro a hA
 refine seq_end ?_
 refine hK2 _ _ ?_
 refine wp_seq_k (fun K3 hK3 => ?_)
 refine wp_region_lit ?_
 refine seq_do hA rfl rfl rfl (does_move rfl) ?_
 intro a hA
 refine seq_do (v := .int .i64 1) hA rfl rfl rfl (does_len Try.underlying35 rfl) ?_
 intro a hA
 refine seq_do hA rfl rfl rfl (does_assign rfl) ?_
 intro a hA
 refine seq_end ?_
 refine hK3 _ _ ?_
 refine wp_seq_k (fun K4 hK4 => ?_)
 refine wp_seq_k (fun K5 hK5 => ?_)
 refine wp_region_lit ?_
 refine seq_do hA rfl rfl rfl (does_move rfl) ?_
 intro a hA
 refine seq_do (v := .bool false) hA rfl rfl rfl (does_bin rfl rfl (fun w => by kernel_rfl)) ?_
 intro a hA
 refine seq_end ?_
 refine hK5 _ _ ?_
 refine wp_cond_false (hA.ev rfl) ?_
 refine wp_skip ?_
 refine hK4 _ _ ?_
 refine wp_seq_k (fun K6 hK6 => ?_)
 refine wp_region_lit ?_
 refine seq_do hA rfl rfl rfl (does_move rfl) ?_
 intro a hA
 refine seq_do (v := .int .i64 (((n : Nat) : Int))) hA rfl rfl rfl (does_len Try.underlying35 rfl) ?_
 intro a hA
 refine seq_do hA rfl rfl rfl (does_assign rfl) ?_
 intro a hA
 refine seq_end ?_
 refine hK6 _ _ ?_
 refine wp_seq_k (fun K7 hK7 => ?_)
 refine wp_seq_k (fun K8 hK8 => ?_)
 refine wp_region_lit ?_
 refine seq_do hA rfl rfl rfl (does_move rfl) ?_
 intro a hA
 refine seq_do hA rfl rfl rfl (does_move rfl) ?_
 intro a hA
 rcases Bool.eq_false_or_eq_true ((((i : Nat) : Int) == ((n : Nat) : Int))) with hb9 | hb9
 · have hb9' := eq_of_beq hb9
   refine seq_do (v := .bool true) hA rfl rfl rfl (does_bin rfl rfl (fun w => (bin_eql w).trans (by rw [hb9]))) ?_
   intro a hA
   refine seq_end ?_
   refine hK8 _ _ ?_
   refine wp_cond_true (hA.ev rfl) ?_
   refine wp_seq_k (fun K10 hK10 => ?_)
   refine wp_region_lit ?_
   refine seq_do hA rfl rfl rfl (does_move rfl) ?_
   intro a hA
   refine seq_do hA rfl rfl rfl (does_move rfl) ?_
   intro a hA
   refine s_appendE (e := 88) (sz := 2) (k := 0) (q := n) (m := 1) (xs := xs) (news := [.string ⟨#[]⟩, .slice none 0 0]) (L' := fun v11 => (.row 88 2 (v11) (n + 1) (xs ++ [.string ⟨#[]⟩, .slice none 0 0]) :: .row 88 2 (.slice (some ⟨gv, 0, none⟩) 1 1) 1 ([.string ⟨#[]⟩, .slice none 0 0]) :: X)) hA rfl rfl rfl (m_appendE (z := .agg #[.string ⟨#[]⟩, .slice none 0 0]) (sz := 2) (by_ := 40) Try.underlying35 (by kernel_rfl) rfl rfl rfl hM 0 rfl rfl 1 rfl rfl rfl rfl (by omega)) (fun _ => rfl) ?_
   intro v11 w12 hM a hA
   refine seq_do hA rfl rfl rfl (does_assign rfl) ?_
   intro a hA
   refine seq_end ?_
   refine hK10 _ _ ?_
   refine wp_ret ?_
   refine hret _ _ ?_
   refine ends (v := v11) hA rfl (.cons (res_tmp rfl) .nil) rfl ?_
   obtain ⟨so2, ca2, rfl⟩ := owns_sliceE (hM.has 0 rfl)
   obtain ⟨g2, rfl⟩ := row_addr hM 0 rfl (by omega)
   have h9 := hM.sub (.cons_cons _ (.cons _ (.refl _)))
   rw [ins_end hxl (show i = n by omega)] at h9
   exact ⟨g2, ca2, rfl, h9⟩
 · have hb9' := ne_of_beq_false hb9
   refine seq_do (v := .bool false) hA rfl rfl rfl (does_bin rfl rfl (fun w => (bin_eql w).trans (by rw [hb9]))) ?_
   intro a hA
   refine seq_end ?_
   refine hK8 _ _ ?_
   refine wp_cond_false (hA.ev rfl) ?_
   refine wp_skip ?_
   refine hK7 _ _ ?_
   refine wp_seq_k (fun K13 hK13 => ?_)
   refine wp_seq_k (fun K14 hK14 => ?_)
   refine wp_region_lit ?_
   refine seq_do hA rfl rfl rfl (does_move rfl) ?_
   intro a hA
   refine seq_do hA rfl rfl rfl (does_move rfl) ?_
   intro a hA
   refine seq_do (v := .int .i64 (((n + 1 : Nat) : Int))) hA rfl rfl rfl (does_bin rfl rfl (ar_add ((in_i64 (by omega) (by omega)).trans (by omega)))) ?_
   intro a hA
   refine seq_do hA rfl rfl rfl (does_move rfl) ?_
   intro a hA
   refine seq_do (v := .int .i64 (((n : Nat) : Int))) hA rfl rfl rfl (does_cap Try.underlying35 rfl) ?_
   intro a hA
   refine seq_do (v := .bool true) hA rfl rfl rfl (does_bin rfl rfl (fun w => (bin_gtr w).trans (by rw [show (decide (((n : Nat) : Int) < ((n + 1 : Nat) : Int))) = true from decide_eq_true (by omega)]))) ?_
   intro a hA
   refine seq_end ?_
   refine hK14 _ _ ?_
   refine wp_cond_true (hA.ev rfl) ?_
   refine wp_seq_k (fun K15 hK15 => ?_)
   refine wp_region_lit ?_
   refine seq_do hA rfl rfl rfl (does_move rfl) ?_
   intro a hA
   refine seq_do hA rfl rfl rfl (does_move rfl) ?_
   intro a hA
   refine seq_do (v := .slice (some ⟨g, 0, none⟩) i n) hA rfl rfl rfl (does_upto (sz := 2) Try.underlying35 (by kernel_rfl) rfl rfl rfl (by omega)) ?_
   intro a hA
   refine seq_do hA rfl rfl rfl (does_move rfl) ?_
   intro a hA
   refine seq_do hA rfl rfl rfl (does_move rfl) ?_
   intro a hA
   refine seq_do (v := .int .i64 (((n + 1 : Nat) : Int))) hA rfl rfl rfl (does_bin rfl rfl (ar_add ((in_i64 (by omega) (by omega)).trans (by omega)))) ?_
   intro a hA
   refine seq_do hA rfl rfl rfl (does_move rfl) ?_
   intro a hA
   refine seq_do (v := .int .i64 (((n + 1 - i : Nat) : Int))) hA rfl rfl rfl (does_bin rfl rfl (ar_sub ((in_i64 (by omega) (by omega)).trans (by omega)))) ?_
   intro a hA
   refine s_zeros (e := 88) (sz := 2) (i := i) (m := n + 1 - i) (olds := xs.take (i * 2)) hA rfl rfl rfl (m_zeros (z := .agg #[.string ⟨#[]⟩, .slice none 0 0]) (sz := 2) (by_ := 40) Try.underlying35 Try.underlying3 (by kernel_rfl) rfl rfl hM rfl (by rw [List.length_take, hxl]; omega) (.inr ⟨g, rfl, fun j u hj => row_cells hM 0 rfl j u (take_some hj)⟩) rfl rfl (by omega) (by omega) (by omega) (by omega) (.inl (by decide))) ?_
   intro g16 cp17 zs18 w19 hcp20 hzs21 hM a hA
   refine seq_do hA rfl rfl rfl (does_assign rfl) ?_
   intro a hA
   refine seq_end ?_
   refine hK15 _ _ ?_
   refine wp_seq_k (fun K22 hK22 => ?_)
   refine wp_region_lit ?_
   refine seq_do hA rfl rfl rfl (does_move rfl) ?_
   intro a hA
   refine seq_do hA rfl rfl rfl (does_move rfl) ?_
   intro a hA
   refine seq_do (v := .slice (some ⟨g16, i * 2, none⟩) (((i + (n + 1 - i)) - (i))) ((cp17 - (i)))) hA rfl rfl rfl (does_fromX Try.underlying35 (by kernel_rfl) rfl rfl rfl (by omega) (by omega)) ?_
   intro a hA
   refine seq_do hA rfl rfl rfl (does_move rfl) ?_
   intro a hA
   refine s_copyE (v := .int .i64 (((1 : Nat) : Int))) (cs := [.string ⟨#[]⟩, .slice none 0 0]) (L' := (.row 88 2 (.slice (some ⟨g16, 0, none⟩) ((i + (n + 1 - i))) cp17) ((i + (n + 1 - i))) ((over (xs.take (i * 2) ++ zs18) (i * 2) [.string ⟨#[]⟩, .slice none 0 0])) :: .row 88 2 (.slice (some ⟨g, 0, none⟩) n n) n xs :: .row 88 2 (.slice (some ⟨gv, 0, none⟩) 1 1) 1 ([.string ⟨#[]⟩, .slice none 0 0]) :: X)) hA hM rfl rfl rfl (m_copyE (sz := 2) (sl := 1) (dl := ((i + (n + 1 - i)) - (i))) Try.underlying35 (by kernel_rfl) hM 0 rfl rfl rfl (by omega) rfl (fun j u hj => by rw [Nat.zero_add]; exact row_cells hM 2 rfl j u hj) (fun u hu => List.all_eq_true.1 (rfl : ([.string ⟨#[]⟩, .slice none 0 0] : List Value).all Value.oneCell' = true) u hu) (show i * 2 + 2 ≤ (i + (n + 1 - i)) * 2 by omega)) 0 rfl rfl ?_
   intro w23 hM a hA
   refine seq_end ?_
   refine hK22 _ _ ?_
   refine wp_seq_k (fun K24 hK24 => ?_)
   refine wp_draw (S := fun w1 => Mg w0 w1 ([])) (by kernel_rfl) ?_
   replace hM := hM.drew
   refine any_tk hA 0 rfl rfl rfl rfl hP (hM.sub (.cons _ (.cons _ (.cons _ (List.nil_sublist _))))) (fun w1 hM => does_move rfl) ?_
   intro a hA
   refine any_tk hA 1 rfl rfl rfl rfl hP (hM.sub (.cons _ (.cons _ (.cons _ (List.nil_sublist _))))) (fun w1 hM => does_move rfl) ?_
   intro a hA
   refine any_tk hA 2 rfl rfl rfl rfl hP (hM.sub (.cons _ (.cons _ (.cons _ (List.nil_sublist _))))) (fun w1 hM => does_move rfl) ?_
   intro a hA
   refine any_tk (v := .int .i64 (((i + 1 : Nat) : Int))) hA 3 rfl rfl rfl rfl hP (hM.sub (.cons _ (.cons _ (.cons _ (List.nil_sublist _))))) (fun w1 hM => does_bin rfl rfl (ar_add ((in_i64 (by omega) (by omega)).trans (by omega)))) ?_
   intro a hA
   refine any_tk (v := .slice (some ⟨g16, (i + 1) * 2, none⟩) (((i + (n + 1 - i)) - (i + 1))) ((cp17 - (i + 1)))) hA 4 rfl rfl rfl rfl hP (hM.sub (.cons _ (.cons _ (.cons _ (List.nil_sublist _))))) (fun w1 hM => does_fromX Try.underlying35 (by kernel_rfl) rfl rfl rfl (by omega) (by omega)) ?_
   intro a hA
   refine any_tk hA 5 rfl rfl rfl rfl hP (hM.sub (.cons _ (.cons _ (.cons _ (List.nil_sublist _))))) (fun w1 hM => does_move rfl) ?_
   intro a hA
   refine any_tk hA 6 rfl rfl rfl rfl hP (hM.sub (.cons _ (.cons _ (.cons _ (List.nil_sublist _))))) (fun w1 hM => does_move rfl) ?_
   intro a hA
   refine any_tk (v := .slice (some ⟨g, i * 2, none⟩) ((n - (i))) ((n - (i)))) hA 7 rfl rfl rfl rfl hP (hM.sub (.cons _ (.cons _ (.cons _ (List.nil_sublist _))))) (fun w1 hM => does_fromX Try.underlying35 (by kernel_rfl) rfl rfl rfl (by omega) (by omega)) ?_
   intro a hA
   refine any_one (by kernel_rfl) (g_copyE (v := .int .i64 ((((n - (i)) : Nat) : Int))) (cs := (xs.drop (i * 2))) (L' := (.row 88 2 (.slice (some ⟨g16, 0, none⟩) ((i + (n + 1 - i))) cp17) ((i + (n + 1 - i))) ((over (over (xs.take (i * 2) ++ zs18) (i * 2) [.string ⟨#[]⟩, .slice none 0 0]) ((i + 1) * 2) (xs.drop (i * 2)))) :: .row 88 2 (.slice (some ⟨g, 0, none⟩) n n) n xs :: .row 88 2 (.slice (some ⟨gv, 0, none⟩) 1 1) 1 ([.string ⟨#[]⟩, .slice none 0 0]) :: X)) hA hM 8 rfl rfl rfl rfl (m_copyE (sz := 2) (sl := (n - (i))) (dl := ((i + (n + 1 - i)) - (i + 1))) Try.underlying35 (by kernel_rfl) hM 0 rfl rfl rfl (by omega) (by rw [List.length_drop, hxl]; omega) (fun j u hj => row_cells hM 1 rfl _ _ (by rw [List.getElem?_drop] at hj; exact hj)) (fun u hu => hx1 u (List.mem_of_mem_drop hu)) (by rw [List.length_drop, hxl]; omega)) 0 rfl rfl ?_)
   intro w25 hM
   refine ⟨(hM.sub (.cons _ (.cons _ (.cons _ (List.nil_sublist _))))), ?_⟩
   intro a hA
   refine any_end (by kernel_rfl) ?_
   refine hK24 _ _ ?_
   refine wp_seq_k (fun K26 hK26 => ?_)
   refine wp_region_lit ?_
   refine seq_do hA rfl rfl rfl (does_move rfl) ?_
   intro a hA
   refine seq_do hA rfl rfl rfl (does_assign rfl) ?_
   intro a hA
   refine seq_end ?_
   refine hK26 _ _ ?_
   refine wp_ret ?_
   refine hret _ _ ?_
   refine ends (v := .slice (some ⟨g16, 0, none⟩) ((i + (n + 1 - i))) cp17) hA rfl (.cons (res_tmp rfl) .nil) rfl ?_
   have h9 := hM.sub (.cons_cons _ (.cons _ (.cons _ (.refl _))))
   rw [ins_mid hxl (by omega) hzs21, show i + (n + 1 - i) = n + 1 from by omega] at h9
   rw [show i + (n + 1 - i) = n + 1 from by omega]
   exact ⟨_, _, rfl, h9⟩
theorem delete_any {w0 w : World} {g n i : Nat} {xs : List Value} {X : List Ck} (hn : n ≤ 64) (hi : i < n) (hx1 : ∀ u ∈ xs, u.oneCell' = true) (hM0 : Mg w0 w (.row 88 2 (.slice (some ⟨g, 0, none⟩) n n) n xs :: X)) : Calls Try.prog 62 #[.slice (some ⟨g, 0, none⟩) n n, .int .i64 ((i : Nat) : Int), .int .i64 ((i + 1 : Nat) : Int)] w fun e w' => e = .returned (.slice (some ⟨g, 0, none⟩) (n - 1) n) ∧ Mg w0 w' (.row 88 2 (.slice (some ⟨g, 0, none⟩) (n - 1) n) (n - 1) (xs.take (i * 2) ++ xs.drop ((i + 1) * 2)) :: X) := by
 have hM : Mg w0 w (.row 88 2 (.slice (some ⟨g, 0, none⟩) n n) n xs :: X) := hM0
 refine walk_of (l := [(0, .slice (some ⟨g, 0, none⟩) n n), (1, .int .i64 (((i : Nat) : Int))), (2, .int .i64 (((i + 1 : Nat) : Int)))]) Try.func62 rfl Try.ntmps62 rfl rfl ?_
 intro Q hret hnorm hP a hA
 refine wp_seq_k (fun K1 hK1 => ?_)
 refine wp_region_lit ?_
 refine seq_do hA rfl rfl rfl (does_assign rfl) ?_
 intro a hA
 refine seq_end ?_
 refine hK1 _ _ ?_
 refine wp_seq_k (fun K2 hK2 => ?_)
 refine wp_region_lit ?_
 refine seq_do hA rfl rfl rfl (does_move rfl) ?_
 intro a hA
 refine seq_do hA rfl rfl rfl (does_move rfl) ?_
 intro a hA
 refine seq_do hA rfl rfl rfl (does_move rfl) ?_
 intro a hA
 refine seq_do hA rfl rfl rfl (does_move rfl) ?_
 intro a hA
 refine seq_do (v := .int .i64 (((n : Nat) : Int))) hA rfl rfl rfl (does_len Try.underlying35 rfl) ?_
 intro a hA
 refine seq_do (v := .slice (if n = i then some ⟨g, 0, none⟩ else (some ⟨g, 0, none⟩ : Option Addr).map (·.add (i * 2))) (i + 1 - i) (n - i)) hA rfl rfl rfl (does_s3 Try.underlying35 (by kernel_rfl) rfl rfl rfl rfl rfl rfl rfl (by omega) (by omega) (by omega)) ?_
 intro a hA
 refine seq_end ?_
 refine hK2 _ _ ?_
 refine wp_seq_k (fun K3 hK3 => ?_)
 refine wp_seq_k (fun K4 hK4 => ?_)
 refine wp_region_lit ?_
 refine seq_do hA rfl rfl rfl (does_move rfl) ?_
 intro a hA
 refine seq_do hA rfl rfl rfl (does_move rfl) ?_
 intro a hA
 refine seq_do (v := .bool false) hA rfl rfl rfl (does_bin rfl rfl (fun w => (bin_eql w).trans (by rw [show ((((i : Nat) : Int) == ((i + 1 : Nat) : Int))) = false from beq_false_of_ne (by omega)]))) ?_
 intro a hA
 refine seq_end ?_
 refine hK4 _ _ ?_
 refine wp_cond_false (hA.ev rfl) ?_
 refine wp_skip ?_
 refine hK3 _ _ ?_
 refine wp_seq_k (fun K5 hK5 => ?_)
 refine wp_region_lit ?_
 refine seq_do hA rfl rfl rfl (does_move rfl) ?_
 intro a hA
 refine seq_do (v := .int .i64 (((n : Nat) : Int))) hA rfl rfl rfl (does_len Try.underlying35 rfl) ?_
 intro a hA
 refine seq_do hA rfl rfl rfl (does_assign rfl) ?_
 intro a hA
 refine seq_end ?_
 refine hK5 _ _ ?_
 refine wp_seq_k (fun K6 hK6 => ?_)
 refine wp_draw (S := fun w1 => Mg w0 w1 ([])) (by kernel_rfl) ?_
 replace hM := hM.drew
 refine any_tk hA 0 rfl rfl rfl rfl hP (hM.sub (.cons _ (List.nil_sublist _))) (fun w1 hM => does_move rfl) ?_
 intro a hA
 refine any_tk hA 1 rfl rfl rfl rfl hP (hM.sub (.cons _ (List.nil_sublist _))) (fun w1 hM => does_move rfl) ?_
 intro a hA
 refine any_tk (v := .slice (some ⟨g, 0, none⟩) i n) hA 2 rfl rfl rfl rfl hP (hM.sub (.cons _ (List.nil_sublist _))) (fun w1 hM => does_upto (sz := 2) Try.underlying35 (by kernel_rfl) rfl rfl rfl (by omega)) ?_
 intro a hA
 refine any_tk hA 3 rfl rfl rfl rfl hP (hM.sub (.cons _ (List.nil_sublist _))) (fun w1 hM => does_move rfl) ?_
 intro a hA
 refine any_tk hA 4 rfl rfl rfl rfl hP (hM.sub (.cons _ (List.nil_sublist _))) (fun w1 hM => does_move rfl) ?_
 intro a hA
 refine any_tk (v := .slice (if n = i + 1 then some ⟨g, 0, none⟩ else some ⟨g, (i + 1) * 2, none⟩) (n - (i + 1)) (n - (i + 1))) hA 5 rfl rfl rfl rfl hP (hM.sub (.cons _ (List.nil_sublist _))) (fun w1 hM => does_fromI Try.underlying35 (by kernel_rfl) rfl rfl rfl (by omega)) ?_
 intro a hA
 refine any_one (by kernel_rfl) (g_cut (v := .slice (some ⟨g, 0, none⟩) ((n - 1)) n) (L' := (.row 88 2 (.slice (some ⟨g, 0, none⟩) ((n - 1)) n) ((n - 1)) ((xs.take (i * 2) ++ xs.drop ((i + 1) * 2))) :: X)) hA 6 rfl rfl rfl rfl (m_cut Try.underlying35 (by kernel_rfl) rfl hM 0 rfl hi rfl rfl hx1) ?_)
 intro w7 hM
 refine ⟨(hM.sub (.cons _ (List.nil_sublist _))), ?_⟩
 intro a hA
 refine any_tk hA 7 rfl rfl rfl rfl hP (hM.sub (.cons _ (List.nil_sublist _))) (fun w1 hM => does_assign rfl) ?_
 intro a hA
 refine any_end (by kernel_rfl) ?_
 refine hK6 _ _ ?_
 refine wp_seq_k (fun K8 hK8 => ?_)
 refine wp_region_lit ?_
 refine seq_do hA rfl rfl rfl (does_move rfl) ?_
 intro a hA
 refine seq_do hA rfl rfl rfl (does_move rfl) ?_
 intro a hA
 refine seq_do (v := .int .i64 ((((n - 1) : Nat) : Int))) hA rfl rfl rfl (does_len Try.underlying35 rfl) ?_
 intro a hA
 refine seq_do hA rfl rfl rfl (does_move rfl) ?_
 intro a hA
 refine seq_do (v := .slice (some ⟨g, (n - 1) * 2, none⟩) 1 ((n - (n - 1)))) hA rfl rfl rfl (does_s2q Try.underlying35 (by kernel_rfl) rfl rfl rfl rfl rfl (by omega) (by omega) (by omega) (by omega)) ?_
 intro a hA
 refine s_clear hA rfl rfl (m_clear (z := .agg #[.string ⟨#[]⟩, .slice none 0 0]) (by_ := 40) Try.underlying35 (by kernel_rfl) rfl (fun u hu => List.all_eq_true.1 (show ((Builtin.zeroCells (.agg #[.string ⟨#[]⟩, .slice none 0 0] : Value).cells 1).toList).all Value.oneCell' = true by kernel_rfl) u hu) hM 0 rfl (by omega) rfl) ?_
 intro w9 hM
 refine seq_end ?_
 refine hK8 _ _ ?_
 refine wp_seq_k (fun K10 hK10 => ?_)
 refine wp_region_lit ?_
 refine seq_do hA rfl rfl rfl (does_move rfl) ?_
 intro a hA
 refine seq_do hA rfl rfl rfl (does_assign rfl) ?_
 intro a hA
 refine seq_end ?_
 refine hK10 _ _ ?_
 refine wp_ret ?_
 refine hret _ _ ?_
 refine ends (v := .slice (some ⟨g, 0, none⟩) ((n - 1)) n) hA rfl (.cons (res_tmp rfl) .nil) rfl ?_
 exact ⟨rfl, hM⟩
theorem grow_any {w : World} {n : Nat} (hn : n ≤ 1000000000) : Calls Try.prog 80 #[.slice none 0 0, .int .i64 ((n : Nat) : Int)] w fun e w' => ∃ v, e = .returned v ∧ Mg w w' [.row BY 1 v 0 []] := by
 have hM : Mg w w ([]) := Mg.start w
 refine walk_of (l := [(0, .slice none 0 0), (1, .int .i64 (((n : Nat) : Int)))]) Try.func80 rfl Try.ntmps80 rfl rfl ?_
 intro Q hret hnorm hP a hA
 refine wp_seq_k (fun K1 hK1 => ?_)
 refine wp_region_lit ?_
 refine seq_do hA rfl rfl rfl (does_assign rfl) ?_
 intro a hA
 refine seq_end ?_
 refine hK1 _ _ ?_
 refine wp_seq_k (fun K2 hK2 => ?_)
 refine wp_seq_k (fun K3 hK3 => ?_)
 refine wp_region_lit ?_
 refine seq_do hA rfl rfl rfl (does_move rfl) ?_
 intro a hA
 refine seq_do (v := .bool false) hA rfl rfl rfl (does_bin rfl rfl (fun w => (bin_lss w).trans (by rw [show (decide (((n : Nat) : Int) < 0)) = false from decide_eq_false (by omega)]))) ?_
 intro a hA
 refine seq_end ?_
 refine hK3 _ _ ?_
 refine wp_cond_false (hA.ev rfl) ?_
 refine wp_skip ?_
 refine hK2 _ _ ?_
 refine wp_seq_k (fun K4 hK4 => ?_)
 refine wp_seq_k (fun K5 hK5 => ?_)
 refine wp_region_lit ?_
 refine seq_do hA rfl rfl rfl (does_move rfl) ?_
 intro a hA
 refine seq_do hA rfl rfl rfl (does_move rfl) ?_
 intro a hA
 refine seq_do (v := .int .i64 0) hA rfl rfl rfl (does_cap Try.underlying24 rfl) ?_
 intro a hA
 refine seq_do hA rfl rfl rfl (does_move rfl) ?_
 intro a hA
 refine seq_do (v := .int .i64 0) hA rfl rfl rfl (does_len Try.underlying24 rfl) ?_
 intro a hA
 refine seq_do (v := .int .i64 0) hA rfl rfl rfl (does_bin rfl rfl (fun w => by kernel_rfl)) ?_
 intro a hA
 refine seq_do (v := .int .i64 (((n : Nat) : Int))) hA rfl rfl rfl (does_bin rfl rfl (ar_sub ((in_i64 (by omega) (by omega)).trans (by omega)))) ?_
 intro a hA
 refine seq_do hA rfl rfl rfl (does_assign rfl) ?_
 intro a hA
 refine seq_end ?_
 refine hK5 _ _ ?_
 refine wp_seq_k (fun K6 hK6 => ?_)
 refine wp_region_lit ?_
 refine seq_do hA rfl rfl rfl (does_move rfl) ?_
 intro a hA
 rcases Bool.eq_false_or_eq_true (decide (0 < ((n : Nat) : Int))) with hb7 | hb7
 · have hb7' := of_decide_eq_true hb7
   refine seq_do (v := .bool true) hA rfl rfl rfl (does_bin rfl rfl (fun w => (bin_gtr w).trans (by rw [hb7]))) ?_
   intro a hA
   refine seq_end ?_
   refine hK6 _ _ ?_
   refine wp_cond_true (hA.ev rfl) ?_
   refine wp_region_lit ?_
   refine seq_do hA rfl rfl rfl (does_move rfl) ?_
   intro a hA
   refine seq_do hA rfl rfl rfl (does_move rfl) ?_
   intro a hA
   refine seq_do (v := .int .i64 0) hA rfl rfl rfl (does_cap Try.underlying24 rfl) ?_
   intro a hA
   refine seq_do (v := .slice none 0 0) hA rfl rfl rfl (does_upto (sz := 1) Try.underlying24 (by kernel_rfl) rfl rfl rfl (by omega)) ?_
   intro a hA
   refine seq_do hA rfl rfl rfl (does_move rfl) ?_
   intro a hA
   refine s_zeros (e := BY) (sz := 1) (i := 0) (m := n) (olds := []) hA rfl rfl rfl (m_zeros (z := .int .u8 0) (by_ := 1) Try.underlying24 Try.underlying3 (by kernel_rfl) rfl rfl hM rfl rfl (.inl rfl) rfl rfl (by omega) (by omega) (by omega) (by omega) (.inr (noBld_quiet quietL_nil))) ?_
   intro g8 cp9 zs10 w11 hcp12 hzs13 hM a hA
   refine seq_do hA rfl rfl rfl (does_move rfl) ?_
   intro a hA
   refine seq_do (v := .int .i64 0) hA rfl rfl rfl (does_len Try.underlying24 rfl) ?_
   intro a hA
   refine seq_do (v := .slice (some ⟨g8, 0, none⟩) 0 cp9) hA rfl rfl rfl (does_upto (sz := 1) Try.underlying24 (by kernel_rfl) rfl rfl rfl (by omega)) ?_
   intro a hA
   refine seq_do hA rfl rfl rfl (does_assign rfl) ?_
   intro a hA
   refine seq_end ?_
   refine hK4 _ _ ?_
   refine wp_seq_k (fun K14 hK14 => ?_)
   refine wp_region_lit ?_
   refine seq_do hA rfl rfl rfl (does_move rfl) ?_
   intro a hA
   refine seq_do hA rfl rfl rfl (does_assign rfl) ?_
   intro a hA
   refine seq_end ?_
   refine hK14 _ _ ?_
   refine wp_ret ?_
   refine hret _ _ ?_
   refine ends (v := .slice (some ⟨g8, 0, none⟩) 0 cp9) hA rfl (.cons (res_tmp rfl) .nil) rfl ?_
   exact ⟨_, rfl, hM.rowCut 0 rfl (m := 0) (Nat.zero_le _)⟩
 · have hb7' := of_decide_eq_false hb7
   refine seq_do (v := .bool false) hA rfl rfl rfl (does_bin rfl rfl (fun w => (bin_gtr w).trans (by rw [hb7]))) ?_
   intro a hA
   refine seq_end ?_
   refine hK6 _ _ ?_
   refine wp_cond_false (hA.ev rfl) ?_
   refine wp_skip ?_
   refine hK4 _ _ ?_
   refine wp_seq_k (fun K15 hK15 => ?_)
   refine wp_region_lit ?_
   refine seq_do hA rfl rfl rfl (does_move rfl) ?_
   intro a hA
   refine seq_do hA rfl rfl rfl (does_assign rfl) ?_
   intro a hA
   refine seq_end ?_
   refine hK15 _ _ ?_
   refine wp_ret ?_
   refine hret _ _ ?_
   refine ends (v := .slice none 0 0) hA rfl (.cons (res_tmp rfl) .nil) rfl ?_
   exact ⟨_, rfl, nil_row hM⟩
theorem concat2_any {w0 w : World} {gx : Nat} {s1 : Option Addr} {c1 : Nat} {l1 : List UInt8} {s2 : Option Addr} {c2 : Nat} {l2 : List UInt8} {X : List Ck} (hnX : noBld X) (h1 : Rb w0 s1 l1) (h2 : Rb w0 s2 l2) (hb : l1.length + l2.length ≤ 1000000) (hM0 : Mg w0 w (.row 24 1 (.slice (some ⟨gx, 0, none⟩) 2 2) 2 [.slice s1 l1.length c1, .slice s2 l2.length c2] :: X)) : Calls Try.prog 61 #[.slice (some ⟨gx, 0, none⟩) 2 2] w fun e w' => ∃ v, e = .returned v ∧ Mg w0 w' (.row BY 1 v (l1 ++ l2).length (Lib.byteCells (l1 ++ l2)) :: X) := by
 have hM : Mg w0 w (.row 24 1 (.slice (some ⟨gx, 0, none⟩) 2 2) 2 ([.slice s1 l1.length c1, .slice s2 l2.length c2]) :: X) := hM0
 refine walk_of (l := [(0, .slice (some ⟨gx, 0, none⟩) 2 2)]) Try.func61 rfl Try.ntmps61 rfl rfl ?_
 intro Q hret hnorm hP a hA
 refine wp_seq_k (fun K1 hK1 => ?_)
 refine wp_region_lit ?_
 refine seq_do hA rfl rfl rfl (does_assign rfl) ?_
 intro a hA
 refine seq_end ?_
 refine hK1 _ _ ?_
 refine wp_seq_k (fun K2 hK2 => ?_)
 refine wp_region_lit ?_
 refine seq_do hA rfl rfl rfl (does_assign rfl) ?_
 intro a hA
 refine seq_end ?_
 refine hK2 _ _ ?_
 refine wp_seq_k (fun K3 hK3 => ?_)
 refine wp_seq_k (fun K4 hK4 => ?_)
 refine wp_region_lit ?_
 refine seq_do hA rfl rfl rfl (does_move rfl) ?_
 intro a hA
 refine seq_do (v := .int .i64 2) hA rfl rfl rfl (does_len Try.underlying54 rfl) ?_
 intro a hA
 refine seq_do hA rfl rfl rfl (does_move rfl) ?_
 intro a hA
 refine seq_end ?_
 refine hK4 _ _ ?_
 refine wp_block ?_
 refine wp_loop_rounds 5 ?_
 refine rounds_k ?_
 intro K5 hK5
 refine wp_seq_k (fun K6 hK6 => ?_)
 refine wp_region_lit ?_
 refine seq_do (v := .bool true) hA rfl rfl rfl (does_bin rfl rfl (fun w => by kernel_rfl)) ?_
 intro a hA
 refine seq_end ?_
 refine hK6 _ _ ?_
 refine wp_seq_k (fun K7 hK7 => ?_)
 refine wp_cond_true (hA.ev rfl) ?_
 refine wp_skip ?_
 refine hK7 _ _ ?_
 refine wp_seq_k (fun K8 hK8 => ?_)
 refine wp_block ?_
 refine wp_seq_k (fun K9 hK9 => ?_)
 refine wp_region_lit ?_
 refine seq_do (v := .pointer (some ⟨gx, 0, none⟩)) hA rfl rfl rfl (does_indexI rfl rfl (fun w => by kernel_rfl)) ?_
 intro a hA
 refine seq_do (v := .slice s1 l1.length c1) hA rfl rfl rfl (m_loadE hM 0 rfl rfl Wd_is1_24 rfl) ?_
 intro a hA
 refine seq_do hA rfl rfl rfl (does_assign rfl) ?_
 intro a hA
 refine seq_end ?_
 refine hK9 _ _ ?_
 refine wp_seq_k (fun K10 hK10 => ?_)
 refine wp_region_lit ?_
 refine seq_do hA rfl rfl rfl (does_move rfl) ?_
 intro a hA
 refine seq_do hA rfl rfl rfl (does_move rfl) ?_
 intro a hA
 refine seq_do (v := .int .i64 (((l1.length : Nat) : Int))) hA rfl rfl rfl (does_len Try.underlying24 rfl) ?_
 intro a hA
 refine seq_do (v := .int .i64 (((0 + l1.length : Nat) : Int))) hA rfl rfl rfl (does_bin rfl rfl (ar_add ((in_i64 (by omega) (by omega)).trans (by omega)))) ?_
 intro a hA
 refine seq_do hA rfl rfl rfl (does_assign rfl) ?_
 intro a hA
 refine seq_end ?_
 refine hK10 _ _ ?_
 refine wp_seq_k (fun K11 hK11 => ?_)
 refine wp_region_lit ?_
 refine seq_do hA rfl rfl rfl (does_move rfl) ?_
 intro a hA
 refine seq_do (v := .bool false) hA rfl rfl rfl (does_bin rfl rfl (fun w => (bin_lss w).trans (by rw [show (decide (((0 + l1.length : Nat) : Int) < 0)) = false from decide_eq_false (by omega)]))) ?_
 intro a hA
 refine seq_end ?_
 refine hK11 _ _ ?_
 refine wp_cond_false (hA.ev rfl) ?_
 refine wp_skip ?_
 refine hK8 _ _ ?_
 refine wp_region_lit ?_
 refine seq_do (v := .int .i64 1) hA rfl rfl rfl (does_bin rfl rfl (fun w => by kernel_rfl)) ?_
 intro a hA
 refine seq_do hA rfl rfl rfl (does_move rfl) ?_
 intro a hA
 refine seq_end ?_
 refine hK5 _ _ ?_
 refine rounds_k ?_
 intro K12 hK12
 refine wp_seq_k (fun K13 hK13 => ?_)
 refine wp_region_lit ?_
 refine seq_do (v := .bool true) hA rfl rfl rfl (does_bin rfl rfl (fun w => by kernel_rfl)) ?_
 intro a hA
 refine seq_end ?_
 refine hK13 _ _ ?_
 refine wp_seq_k (fun K14 hK14 => ?_)
 refine wp_cond_true (hA.ev rfl) ?_
 refine wp_skip ?_
 refine hK14 _ _ ?_
 refine wp_seq_k (fun K15 hK15 => ?_)
 refine wp_block ?_
 refine wp_seq_k (fun K16 hK16 => ?_)
 refine wp_region_lit ?_
 refine seq_do (v := .pointer (some ⟨gx, 1, none⟩)) hA rfl rfl rfl (does_indexI rfl rfl (fun w => by kernel_rfl)) ?_
 intro a hA
 refine seq_do (v := .slice s2 l2.length c2) hA rfl rfl rfl (m_loadE hM 0 rfl rfl Wd_is1_24 rfl) ?_
 intro a hA
 refine seq_do hA rfl rfl rfl (does_assign rfl) ?_
 intro a hA
 refine seq_end ?_
 refine hK16 _ _ ?_
 refine wp_seq_k (fun K17 hK17 => ?_)
 refine wp_region_lit ?_
 refine seq_do hA rfl rfl rfl (does_move rfl) ?_
 intro a hA
 refine seq_do hA rfl rfl rfl (does_move rfl) ?_
 intro a hA
 refine seq_do (v := .int .i64 (((l2.length : Nat) : Int))) hA rfl rfl rfl (does_len Try.underlying24 rfl) ?_
 intro a hA
 refine seq_do (v := .int .i64 (((0 + l1.length + l2.length : Nat) : Int))) hA rfl rfl rfl (does_bin rfl rfl (ar_add ((in_i64 (by omega) (by omega)).trans (by omega)))) ?_
 intro a hA
 refine seq_do hA rfl rfl rfl (does_assign rfl) ?_
 intro a hA
 refine seq_end ?_
 refine hK17 _ _ ?_
 refine wp_seq_k (fun K18 hK18 => ?_)
 refine wp_region_lit ?_
 refine seq_do hA rfl rfl rfl (does_move rfl) ?_
 intro a hA
 refine seq_do (v := .bool false) hA rfl rfl rfl (does_bin rfl rfl (fun w => (bin_lss w).trans (by rw [show (decide (((0 + l1.length + l2.length : Nat) : Int) < 0)) = false from decide_eq_false (by omega)]))) ?_
 intro a hA
 refine seq_end ?_
 refine hK18 _ _ ?_
 refine wp_cond_false (hA.ev rfl) ?_
 refine wp_skip ?_
 refine hK15 _ _ ?_
 refine wp_region_lit ?_
 refine seq_do (v := .int .i64 2) hA rfl rfl rfl (does_bin rfl rfl (fun w => by kernel_rfl)) ?_
 intro a hA
 refine seq_do hA rfl rfl rfl (does_move rfl) ?_
 intro a hA
 refine seq_end ?_
 refine hK12 _ _ ?_
 refine rounds_k ?_
 intro K19 hK19
 refine wp_seq_k (fun K20 hK20 => ?_)
 refine wp_region_lit ?_
 refine seq_do (v := .bool false) hA rfl rfl rfl (does_bin rfl rfl (fun w => by kernel_rfl)) ?_
 intro a hA
 refine seq_end ?_
 refine hK20 _ _ ?_
 refine wp_seq_k (fun K21 hK21 => ?_)
 refine wp_cond_false (hA.ev rfl) ?_
 refine wp_exit ?_
 refine hK3 _ _ ?_
 refine wp_seq_k (fun K22 hK22 => ?_)
 refine wp_region_lit ?_
 refine seq_do hA rfl rfl rfl (does_move rfl) ?_
 intro a hA
 refine seq_call hA rfl rfl rfl (enters_func rfl rfl (fun w => by kernel_rfl)) (grow_any (n := 0 + l1.length + l2.length) (by omega)) ?_
 rintro _ w27 ⟨v23, rfl, hM24⟩
 obtain ⟨so25, ca26, rfl⟩ := owns_sliceE (hM24.has 0 rfl)
 replace hM : Mg w0 w27 (.row BY 1 (.slice so25 0 ca26) 0 ([]) :: .row 24 1 (.slice (some ⟨gx, 0, none⟩) 2 2) 2 ([.slice s1 l1.length c1, .slice s2 l2.length c2]) :: X) := (hM.both hM24 (noBld_cons (by simp) hnX) (noBld_cons (by simp) (noBld_quiet quietL_nil)))
 refine ⟨_, rfl, ?_⟩
 intro a hA
 refine seq_do hA rfl rfl rfl (does_assign rfl) ?_
 intro a hA
 refine seq_end ?_
 refine hK22 _ _ ?_
 refine wp_seq_k (fun K28 hK28 => ?_)
 refine wp_seq_k (fun K29 hK29 => ?_)
 refine wp_region_lit ?_
 refine seq_do hA rfl rfl rfl (does_move rfl) ?_
 intro a hA
 refine seq_do (v := .int .i64 2) hA rfl rfl rfl (does_len Try.underlying54 rfl) ?_
 intro a hA
 refine seq_do hA rfl rfl rfl (does_move rfl) ?_
 intro a hA
 refine seq_end ?_
 refine hK29 _ _ ?_
 refine wp_block ?_
 refine wp_loop_rounds 5 ?_
 refine rounds_k ?_
 intro K30 hK30
 refine wp_seq_k (fun K31 hK31 => ?_)
 refine wp_region_lit ?_
 refine seq_do (v := .bool true) hA rfl rfl rfl (does_bin rfl rfl (fun w => by kernel_rfl)) ?_
 intro a hA
 refine seq_end ?_
 refine hK31 _ _ ?_
 refine wp_seq_k (fun K32 hK32 => ?_)
 refine wp_cond_true (hA.ev rfl) ?_
 refine wp_skip ?_
 refine hK32 _ _ ?_
 refine wp_seq_k (fun K33 hK33 => ?_)
 refine wp_block ?_
 refine wp_seq_k (fun K34 hK34 => ?_)
 refine wp_region_lit ?_
 refine seq_do (v := .pointer (some ⟨gx, 0, none⟩)) hA rfl rfl rfl (does_indexI rfl rfl (fun w => by kernel_rfl)) ?_
 intro a hA
 refine seq_do (v := .slice s1 l1.length c1) hA rfl rfl rfl (m_loadE hM 1 rfl rfl Wd_is1_24 rfl) ?_
 intro a hA
 refine seq_do hA rfl rfl rfl (does_assign rfl) ?_
 intro a hA
 refine seq_end ?_
 refine hK34 _ _ ?_
 refine wp_region_lit ?_
 refine seq_do hA rfl rfl rfl (does_move rfl) ?_
 intro a hA
 refine seq_do hA rfl rfl rfl (does_move rfl) ?_
 intro a hA
 refine s_append (k := 0) (q := 0) (m := l1.length) (xs := []) (news := Lib.byteCells l1) (L' := fun v35 => (.row BY 1 (v35) (0 + l1.length) (([] ++ Lib.byteCells l1)) :: .row 24 1 (.slice (some ⟨gx, 0, none⟩) 2 2) 2 ([.slice s1 l1.length c1, .slice s2 l2.length c2]) :: X)) hA rfl rfl rfl (m_appendA Try.underlying24 (by kernel_rfl) hM 0 rfl rfl (h1.below hM.bel) rfl (by first | omega | (simp only [List.length_nil]; omega))) (fun _ => rfl) ?_
 intro v35 w36 hM a hA
 refine seq_do hA rfl rfl rfl (does_assign rfl) ?_
 intro a hA
 refine seq_end ?_
 refine hK33 _ _ ?_
 refine wp_region_lit ?_
 refine seq_do (v := .int .i64 1) hA rfl rfl rfl (does_bin rfl rfl (fun w => by kernel_rfl)) ?_
 intro a hA
 refine seq_do hA rfl rfl rfl (does_move rfl) ?_
 intro a hA
 refine seq_end ?_
 refine hK30 _ _ ?_
 refine rounds_k ?_
 intro K37 hK37
 refine wp_seq_k (fun K38 hK38 => ?_)
 refine wp_region_lit ?_
 refine seq_do (v := .bool true) hA rfl rfl rfl (does_bin rfl rfl (fun w => by kernel_rfl)) ?_
 intro a hA
 refine seq_end ?_
 refine hK38 _ _ ?_
 refine wp_seq_k (fun K39 hK39 => ?_)
 refine wp_cond_true (hA.ev rfl) ?_
 refine wp_skip ?_
 refine hK39 _ _ ?_
 refine wp_seq_k (fun K40 hK40 => ?_)
 refine wp_block ?_
 refine wp_seq_k (fun K41 hK41 => ?_)
 refine wp_region_lit ?_
 refine seq_do (v := .pointer (some ⟨gx, 1, none⟩)) hA rfl rfl rfl (does_indexI rfl rfl (fun w => by kernel_rfl)) ?_
 intro a hA
 refine seq_do (v := .slice s2 l2.length c2) hA rfl rfl rfl (m_loadE hM 1 rfl rfl Wd_is1_24 rfl) ?_
 intro a hA
 refine seq_do hA rfl rfl rfl (does_assign rfl) ?_
 intro a hA
 refine seq_end ?_
 refine hK41 _ _ ?_
 refine wp_region_lit ?_
 refine seq_do hA rfl rfl rfl (does_move rfl) ?_
 intro a hA
 refine seq_do hA rfl rfl rfl (does_move rfl) ?_
 intro a hA
 refine s_append (k := 0) (q := 0 + l1.length) (m := l2.length) (xs := ([] ++ Lib.byteCells l1)) (news := Lib.byteCells l2) (L' := fun v42 => (.row BY 1 (v42) (0 + l1.length + l2.length) ((([] ++ Lib.byteCells l1) ++ Lib.byteCells l2)) :: .row 24 1 (.slice (some ⟨gx, 0, none⟩) 2 2) 2 ([.slice s1 l1.length c1, .slice s2 l2.length c2]) :: X)) hA rfl rfl rfl (m_appendA Try.underlying24 (by kernel_rfl) hM 0 rfl rfl (h2.below hM.bel) rfl (by first | omega | (simp only [List.length_nil]; omega))) (fun _ => rfl) ?_
 intro v42 w43 hM a hA
 refine seq_do hA rfl rfl rfl (does_assign rfl) ?_
 intro a hA
 refine seq_end ?_
 refine hK40 _ _ ?_
 refine wp_region_lit ?_
 refine seq_do (v := .int .i64 2) hA rfl rfl rfl (does_bin rfl rfl (fun w => by kernel_rfl)) ?_
 intro a hA
 refine seq_do hA rfl rfl rfl (does_move rfl) ?_
 intro a hA
 refine seq_end ?_
 refine hK37 _ _ ?_
 refine rounds_k ?_
 intro K44 hK44
 refine wp_seq_k (fun K45 hK45 => ?_)
 refine wp_region_lit ?_
 refine seq_do (v := .bool false) hA rfl rfl rfl (does_bin rfl rfl (fun w => by kernel_rfl)) ?_
 intro a hA
 refine seq_end ?_
 refine hK45 _ _ ?_
 refine wp_seq_k (fun K46 hK46 => ?_)
 refine wp_cond_false (hA.ev rfl) ?_
 refine wp_exit ?_
 refine hK28 _ _ ?_
 refine wp_seq_k (fun K47 hK47 => ?_)
 refine wp_region_lit ?_
 refine seq_do hA rfl rfl rfl (does_move rfl) ?_
 intro a hA
 refine seq_do hA rfl rfl rfl (does_assign rfl) ?_
 intro a hA
 refine seq_end ?_
 refine hK47 _ _ ?_
 refine wp_ret ?_
 refine hret _ _ ?_
 refine ends (v := v42) hA rfl (.cons (res_tmp rfl) .nil) rfl ?_
 have h9 := hM.sub (.cons_cons _ (.cons _ (.refl _)))
 have e9 : ([] ++ Lib.byteCells l1 ++ Lib.byteCells l2 : List Value) = Lib.byteCells (l1 ++ l2) := by simp [Lib.byteCells]
 have e8 : (l1 ++ l2).length = 0 + l1.length + l2.length := by simp only [List.length_append, List.length_nil]; omega
 exact ⟨_, rfl, by rw [e8, ← e9]; exact h9⟩
theorem concat3_any {w0 w : World} {gx : Nat} {s1 : Option Addr} {c1 : Nat} {l1 : List UInt8} {s2 : Option Addr} {c2 : Nat} {l2 : List UInt8} {s3 : Option Addr} {c3 : Nat} {l3 : List UInt8} {X : List Ck} (hnX : noBld X) (h1 : Rb w0 s1 l1) (h2 : Rb w0 s2 l2) (h3 : Rb w0 s3 l3) (hb : l1.length + l2.length + l3.length ≤ 1000000) (hM0 : Mg w0 w (.row 24 1 (.slice (some ⟨gx, 0, none⟩) 3 3) 3 [.slice s1 l1.length c1, .slice s2 l2.length c2, .slice s3 l3.length c3] :: X)) : Calls Try.prog 61 #[.slice (some ⟨gx, 0, none⟩) 3 3] w fun e w' => ∃ v, e = .returned v ∧ Mg w0 w' (.row BY 1 v (l1 ++ l2 ++ l3).length (Lib.byteCells (l1 ++ l2 ++ l3)) :: X) := by
 have hM : Mg w0 w (.row 24 1 (.slice (some ⟨gx, 0, none⟩) 3 3) 3 ([.slice s1 l1.length c1, .slice s2 l2.length c2, .slice s3 l3.length c3]) :: X) := hM0
 refine walk_of (l := [(0, .slice (some ⟨gx, 0, none⟩) 3 3)]) Try.func61 rfl Try.ntmps61 rfl rfl ?_
 intro Q hret hnorm hP a hA
 refine wp_seq_k (fun K1 hK1 => ?_)
 refine wp_region_lit ?_
 refine seq_do hA rfl rfl rfl (does_assign rfl) ?_
 intro a hA
 refine seq_end ?_
 refine hK1 _ _ ?_
 refine wp_seq_k (fun K2 hK2 => ?_)
 refine wp_region_lit ?_
 refine seq_do hA rfl rfl rfl (does_assign rfl) ?_
 intro a hA
 refine seq_end ?_
 refine hK2 _ _ ?_
 refine wp_seq_k (fun K3 hK3 => ?_)
 refine wp_seq_k (fun K4 hK4 => ?_)
 refine wp_region_lit ?_
 refine seq_do hA rfl rfl rfl (does_move rfl) ?_
 intro a hA
 refine seq_do (v := .int .i64 3) hA rfl rfl rfl (does_len Try.underlying54 rfl) ?_
 intro a hA
 refine seq_do hA rfl rfl rfl (does_move rfl) ?_
 intro a hA
 refine seq_end ?_
 refine hK4 _ _ ?_
 refine wp_block ?_
 refine wp_loop_rounds 5 ?_
 refine rounds_k ?_
 intro K5 hK5
 refine wp_seq_k (fun K6 hK6 => ?_)
 refine wp_region_lit ?_
 refine seq_do (v := .bool true) hA rfl rfl rfl (does_bin rfl rfl (fun w => by kernel_rfl)) ?_
 intro a hA
 refine seq_end ?_
 refine hK6 _ _ ?_
 refine wp_seq_k (fun K7 hK7 => ?_)
 refine wp_cond_true (hA.ev rfl) ?_
 refine wp_skip ?_
 refine hK7 _ _ ?_
 refine wp_seq_k (fun K8 hK8 => ?_)
 refine wp_block ?_
 refine wp_seq_k (fun K9 hK9 => ?_)
 refine wp_region_lit ?_
 refine seq_do (v := .pointer (some ⟨gx, 0, none⟩)) hA rfl rfl rfl (does_indexI rfl rfl (fun w => by kernel_rfl)) ?_
 intro a hA
 refine seq_do (v := .slice s1 l1.length c1) hA rfl rfl rfl (m_loadE hM 0 rfl rfl Wd_is1_24 rfl) ?_
 intro a hA
 refine seq_do hA rfl rfl rfl (does_assign rfl) ?_
 intro a hA
 refine seq_end ?_
 refine hK9 _ _ ?_
 refine wp_seq_k (fun K10 hK10 => ?_)
 refine wp_region_lit ?_
 refine seq_do hA rfl rfl rfl (does_move rfl) ?_
 intro a hA
 refine seq_do hA rfl rfl rfl (does_move rfl) ?_
 intro a hA
 refine seq_do (v := .int .i64 (((l1.length : Nat) : Int))) hA rfl rfl rfl (does_len Try.underlying24 rfl) ?_
 intro a hA
 refine seq_do (v := .int .i64 (((0 + l1.length : Nat) : Int))) hA rfl rfl rfl (does_bin rfl rfl (ar_add ((in_i64 (by omega) (by omega)).trans (by omega)))) ?_
 intro a hA
 refine seq_do hA rfl rfl rfl (does_assign rfl) ?_
 intro a hA
 refine seq_end ?_
 refine hK10 _ _ ?_
 refine wp_seq_k (fun K11 hK11 => ?_)
 refine wp_region_lit ?_
 refine seq_do hA rfl rfl rfl (does_move rfl) ?_
 intro a hA
 refine seq_do (v := .bool false) hA rfl rfl rfl (does_bin rfl rfl (fun w => (bin_lss w).trans (by rw [show (decide (((0 + l1.length : Nat) : Int) < 0)) = false from decide_eq_false (by omega)]))) ?_
 intro a hA
 refine seq_end ?_
 refine hK11 _ _ ?_
 refine wp_cond_false (hA.ev rfl) ?_
 refine wp_skip ?_
 refine hK8 _ _ ?_
 refine wp_region_lit ?_
 refine seq_do (v := .int .i64 1) hA rfl rfl rfl (does_bin rfl rfl (fun w => by kernel_rfl)) ?_
 intro a hA
 refine seq_do hA rfl rfl rfl (does_move rfl) ?_
 intro a hA
 refine seq_end ?_
 refine hK5 _ _ ?_
 refine rounds_k ?_
 intro K12 hK12
 refine wp_seq_k (fun K13 hK13 => ?_)
 refine wp_region_lit ?_
 refine seq_do (v := .bool true) hA rfl rfl rfl (does_bin rfl rfl (fun w => by kernel_rfl)) ?_
 intro a hA
 refine seq_end ?_
 refine hK13 _ _ ?_
 refine wp_seq_k (fun K14 hK14 => ?_)
 refine wp_cond_true (hA.ev rfl) ?_
 refine wp_skip ?_
 refine hK14 _ _ ?_
 refine wp_seq_k (fun K15 hK15 => ?_)
 refine wp_block ?_
 refine wp_seq_k (fun K16 hK16 => ?_)
 refine wp_region_lit ?_
 refine seq_do (v := .pointer (some ⟨gx, 1, none⟩)) hA rfl rfl rfl (does_indexI rfl rfl (fun w => by kernel_rfl)) ?_
 intro a hA
 refine seq_do (v := .slice s2 l2.length c2) hA rfl rfl rfl (m_loadE hM 0 rfl rfl Wd_is1_24 rfl) ?_
 intro a hA
 refine seq_do hA rfl rfl rfl (does_assign rfl) ?_
 intro a hA
 refine seq_end ?_
 refine hK16 _ _ ?_
 refine wp_seq_k (fun K17 hK17 => ?_)
 refine wp_region_lit ?_
 refine seq_do hA rfl rfl rfl (does_move rfl) ?_
 intro a hA
 refine seq_do hA rfl rfl rfl (does_move rfl) ?_
 intro a hA
 refine seq_do (v := .int .i64 (((l2.length : Nat) : Int))) hA rfl rfl rfl (does_len Try.underlying24 rfl) ?_
 intro a hA
 refine seq_do (v := .int .i64 (((0 + l1.length + l2.length : Nat) : Int))) hA rfl rfl rfl (does_bin rfl rfl (ar_add ((in_i64 (by omega) (by omega)).trans (by omega)))) ?_
 intro a hA
 refine seq_do hA rfl rfl rfl (does_assign rfl) ?_
 intro a hA
 refine seq_end ?_
 refine hK17 _ _ ?_
 refine wp_seq_k (fun K18 hK18 => ?_)
 refine wp_region_lit ?_
 refine seq_do hA rfl rfl rfl (does_move rfl) ?_
 intro a hA
 refine seq_do (v := .bool false) hA rfl rfl rfl (does_bin rfl rfl (fun w => (bin_lss w).trans (by rw [show (decide (((0 + l1.length + l2.length : Nat) : Int) < 0)) = false from decide_eq_false (by omega)]))) ?_
 intro a hA
 refine seq_end ?_
 refine hK18 _ _ ?_
 refine wp_cond_false (hA.ev rfl) ?_
 refine wp_skip ?_
 refine hK15 _ _ ?_
 refine wp_region_lit ?_
 refine seq_do (v := .int .i64 2) hA rfl rfl rfl (does_bin rfl rfl (fun w => by kernel_rfl)) ?_
 intro a hA
 refine seq_do hA rfl rfl rfl (does_move rfl) ?_
 intro a hA
 refine seq_end ?_
 refine hK12 _ _ ?_
 refine rounds_k ?_
 intro K19 hK19
 refine wp_seq_k (fun K20 hK20 => ?_)
 refine wp_region_lit ?_
 refine seq_do (v := .bool true) hA rfl rfl rfl (does_bin rfl rfl (fun w => by kernel_rfl)) ?_
 intro a hA
 refine seq_end ?_
 refine hK20 _ _ ?_
 refine wp_seq_k (fun K21 hK21 => ?_)
 refine wp_cond_true (hA.ev rfl) ?_
 refine wp_skip ?_
 refine hK21 _ _ ?_
 refine wp_seq_k (fun K22 hK22 => ?_)
 refine wp_block ?_
 refine wp_seq_k (fun K23 hK23 => ?_)
 refine wp_region_lit ?_
 refine seq_do (v := .pointer (some ⟨gx, 2, none⟩)) hA rfl rfl rfl (does_indexI rfl rfl (fun w => by kernel_rfl)) ?_
 intro a hA
 refine seq_do (v := .slice s3 l3.length c3) hA rfl rfl rfl (m_loadE hM 0 rfl rfl Wd_is1_24 rfl) ?_
 intro a hA
 refine seq_do hA rfl rfl rfl (does_assign rfl) ?_
 intro a hA
 refine seq_end ?_
 refine hK23 _ _ ?_
 refine wp_seq_k (fun K24 hK24 => ?_)
 refine wp_region_lit ?_
 refine seq_do hA rfl rfl rfl (does_move rfl) ?_
 intro a hA
 refine seq_do hA rfl rfl rfl (does_move rfl) ?_
 intro a hA
 refine seq_do (v := .int .i64 (((l3.length : Nat) : Int))) hA rfl rfl rfl (does_len Try.underlying24 rfl) ?_
 intro a hA
 refine seq_do (v := .int .i64 (((0 + l1.length + l2.length + l3.length : Nat) : Int))) hA rfl rfl rfl (does_bin rfl rfl (ar_add ((in_i64 (by omega) (by omega)).trans (by omega)))) ?_
 intro a hA
 refine seq_do hA rfl rfl rfl (does_assign rfl) ?_
 intro a hA
 refine seq_end ?_
 refine hK24 _ _ ?_
 refine wp_seq_k (fun K25 hK25 => ?_)
 refine wp_region_lit ?_
 refine seq_do hA rfl rfl rfl (does_move rfl) ?_
 intro a hA
 refine seq_do (v := .bool false) hA rfl rfl rfl (does_bin rfl rfl (fun w => (bin_lss w).trans (by rw [show (decide (((0 + l1.length + l2.length + l3.length : Nat) : Int) < 0)) = false from decide_eq_false (by omega)]))) ?_
 intro a hA
 refine seq_end ?_
 refine hK25 _ _ ?_
 refine wp_cond_false (hA.ev rfl) ?_
 refine wp_skip ?_
 refine hK22 _ _ ?_
 refine wp_region_lit ?_
 refine seq_do (v := .int .i64 3) hA rfl rfl rfl (does_bin rfl rfl (fun w => by kernel_rfl)) ?_
 intro a hA
 refine seq_do hA rfl rfl rfl (does_move rfl) ?_
 intro a hA
 refine seq_end ?_
 refine hK19 _ _ ?_
 refine rounds_k ?_
 intro K26 hK26
 refine wp_seq_k (fun K27 hK27 => ?_)
 refine wp_region_lit ?_
 refine seq_do (v := .bool false) hA rfl rfl rfl (does_bin rfl rfl (fun w => by kernel_rfl)) ?_
 intro a hA
 refine seq_end ?_
 refine hK27 _ _ ?_
 refine wp_seq_k (fun K28 hK28 => ?_)
 refine wp_cond_false (hA.ev rfl) ?_
 refine wp_exit ?_
 refine hK3 _ _ ?_
 refine wp_seq_k (fun K29 hK29 => ?_)
 refine wp_region_lit ?_
 refine seq_do hA rfl rfl rfl (does_move rfl) ?_
 intro a hA
 refine seq_call hA rfl rfl rfl (enters_func rfl rfl (fun w => by kernel_rfl)) (grow_any (n := 0 + l1.length + l2.length + l3.length) (by omega)) ?_
 rintro _ w34 ⟨v30, rfl, hM31⟩
 obtain ⟨so32, ca33, rfl⟩ := owns_sliceE (hM31.has 0 rfl)
 replace hM : Mg w0 w34 (.row BY 1 (.slice so32 0 ca33) 0 ([]) :: .row 24 1 (.slice (some ⟨gx, 0, none⟩) 3 3) 3 ([.slice s1 l1.length c1, .slice s2 l2.length c2, .slice s3 l3.length c3]) :: X) := (hM.both hM31 (noBld_cons (by simp) hnX) (noBld_cons (by simp) (noBld_quiet quietL_nil)))
 refine ⟨_, rfl, ?_⟩
 intro a hA
 refine seq_do hA rfl rfl rfl (does_assign rfl) ?_
 intro a hA
 refine seq_end ?_
 refine hK29 _ _ ?_
 refine wp_seq_k (fun K35 hK35 => ?_)
 refine wp_seq_k (fun K36 hK36 => ?_)
 refine wp_region_lit ?_
 refine seq_do hA rfl rfl rfl (does_move rfl) ?_
 intro a hA
 refine seq_do (v := .int .i64 3) hA rfl rfl rfl (does_len Try.underlying54 rfl) ?_
 intro a hA
 refine seq_do hA rfl rfl rfl (does_move rfl) ?_
 intro a hA
 refine seq_end ?_
 refine hK36 _ _ ?_
 refine wp_block ?_
 refine wp_loop_rounds 5 ?_
 refine rounds_k ?_
 intro K37 hK37
 refine wp_seq_k (fun K38 hK38 => ?_)
 refine wp_region_lit ?_
 refine seq_do (v := .bool true) hA rfl rfl rfl (does_bin rfl rfl (fun w => by kernel_rfl)) ?_
 intro a hA
 refine seq_end ?_
 refine hK38 _ _ ?_
 refine wp_seq_k (fun K39 hK39 => ?_)
 refine wp_cond_true (hA.ev rfl) ?_
 refine wp_skip ?_
 refine hK39 _ _ ?_
 refine wp_seq_k (fun K40 hK40 => ?_)
 refine wp_block ?_
 refine wp_seq_k (fun K41 hK41 => ?_)
 refine wp_region_lit ?_
 refine seq_do (v := .pointer (some ⟨gx, 0, none⟩)) hA rfl rfl rfl (does_indexI rfl rfl (fun w => by kernel_rfl)) ?_
 intro a hA
 refine seq_do (v := .slice s1 l1.length c1) hA rfl rfl rfl (m_loadE hM 1 rfl rfl Wd_is1_24 rfl) ?_
 intro a hA
 refine seq_do hA rfl rfl rfl (does_assign rfl) ?_
 intro a hA
 refine seq_end ?_
 refine hK41 _ _ ?_
 refine wp_region_lit ?_
 refine seq_do hA rfl rfl rfl (does_move rfl) ?_
 intro a hA
 refine seq_do hA rfl rfl rfl (does_move rfl) ?_
 intro a hA
 refine s_append (k := 0) (q := 0) (m := l1.length) (xs := []) (news := Lib.byteCells l1) (L' := fun v42 => (.row BY 1 (v42) (0 + l1.length) (([] ++ Lib.byteCells l1)) :: .row 24 1 (.slice (some ⟨gx, 0, none⟩) 3 3) 3 ([.slice s1 l1.length c1, .slice s2 l2.length c2, .slice s3 l3.length c3]) :: X)) hA rfl rfl rfl (m_appendA Try.underlying24 (by kernel_rfl) hM 0 rfl rfl (h1.below hM.bel) rfl (by first | omega | (simp only [List.length_nil]; omega))) (fun _ => rfl) ?_
 intro v42 w43 hM a hA
 refine seq_do hA rfl rfl rfl (does_assign rfl) ?_
 intro a hA
 refine seq_end ?_
 refine hK40 _ _ ?_
 refine wp_region_lit ?_
 refine seq_do (v := .int .i64 1) hA rfl rfl rfl (does_bin rfl rfl (fun w => by kernel_rfl)) ?_
 intro a hA
 refine seq_do hA rfl rfl rfl (does_move rfl) ?_
 intro a hA
 refine seq_end ?_
 refine hK37 _ _ ?_
 refine rounds_k ?_
 intro K44 hK44
 refine wp_seq_k (fun K45 hK45 => ?_)
 refine wp_region_lit ?_
 refine seq_do (v := .bool true) hA rfl rfl rfl (does_bin rfl rfl (fun w => by kernel_rfl)) ?_
 intro a hA
 refine seq_end ?_
 refine hK45 _ _ ?_
 refine wp_seq_k (fun K46 hK46 => ?_)
 refine wp_cond_true (hA.ev rfl) ?_
 refine wp_skip ?_
 refine hK46 _ _ ?_
 refine wp_seq_k (fun K47 hK47 => ?_)
 refine wp_block ?_
 refine wp_seq_k (fun K48 hK48 => ?_)
 refine wp_region_lit ?_
 refine seq_do (v := .pointer (some ⟨gx, 1, none⟩)) hA rfl rfl rfl (does_indexI rfl rfl (fun w => by kernel_rfl)) ?_
 intro a hA
 refine seq_do (v := .slice s2 l2.length c2) hA rfl rfl rfl (m_loadE hM 1 rfl rfl Wd_is1_24 rfl) ?_
 intro a hA
 refine seq_do hA rfl rfl rfl (does_assign rfl) ?_
 intro a hA
 refine seq_end ?_
 refine hK48 _ _ ?_
 refine wp_region_lit ?_
 refine seq_do hA rfl rfl rfl (does_move rfl) ?_
 intro a hA
 refine seq_do hA rfl rfl rfl (does_move rfl) ?_
 intro a hA
 refine s_append (k := 0) (q := 0 + l1.length) (m := l2.length) (xs := ([] ++ Lib.byteCells l1)) (news := Lib.byteCells l2) (L' := fun v49 => (.row BY 1 (v49) (0 + l1.length + l2.length) ((([] ++ Lib.byteCells l1) ++ Lib.byteCells l2)) :: .row 24 1 (.slice (some ⟨gx, 0, none⟩) 3 3) 3 ([.slice s1 l1.length c1, .slice s2 l2.length c2, .slice s3 l3.length c3]) :: X)) hA rfl rfl rfl (m_appendA Try.underlying24 (by kernel_rfl) hM 0 rfl rfl (h2.below hM.bel) rfl (by first | omega | (simp only [List.length_nil]; omega))) (fun _ => rfl) ?_
 intro v49 w50 hM a hA
 refine seq_do hA rfl rfl rfl (does_assign rfl) ?_
 intro a hA
 refine seq_end ?_
 refine hK47 _ _ ?_
 refine wp_region_lit ?_
 refine seq_do (v := .int .i64 2) hA rfl rfl rfl (does_bin rfl rfl (fun w => by kernel_rfl)) ?_
 intro a hA
 refine seq_do hA rfl rfl rfl (does_move rfl) ?_
 intro a hA
 refine seq_end ?_
 refine hK44 _ _ ?_
 refine rounds_k ?_
 intro K51 hK51
 refine wp_seq_k (fun K52 hK52 => ?_)
 refine wp_region_lit ?_
 refine seq_do (v := .bool true) hA rfl rfl rfl (does_bin rfl rfl (fun w => by kernel_rfl)) ?_
 intro a hA
 refine seq_end ?_
 refine hK52 _ _ ?_
 refine wp_seq_k (fun K53 hK53 => ?_)
 refine wp_cond_true (hA.ev rfl) ?_
 refine wp_skip ?_
 refine hK53 _ _ ?_
 refine wp_seq_k (fun K54 hK54 => ?_)
 refine wp_block ?_
 refine wp_seq_k (fun K55 hK55 => ?_)
 refine wp_region_lit ?_
 refine seq_do (v := .pointer (some ⟨gx, 2, none⟩)) hA rfl rfl rfl (does_indexI rfl rfl (fun w => by kernel_rfl)) ?_
 intro a hA
 refine seq_do (v := .slice s3 l3.length c3) hA rfl rfl rfl (m_loadE hM 1 rfl rfl Wd_is1_24 rfl) ?_
 intro a hA
 refine seq_do hA rfl rfl rfl (does_assign rfl) ?_
 intro a hA
 refine seq_end ?_
 refine hK55 _ _ ?_
 refine wp_region_lit ?_
 refine seq_do hA rfl rfl rfl (does_move rfl) ?_
 intro a hA
 refine seq_do hA rfl rfl rfl (does_move rfl) ?_
 intro a hA
 refine s_append (k := 0) (q := 0 + l1.length + l2.length) (m := l3.length) (xs := (([] ++ Lib.byteCells l1) ++ Lib.byteCells l2)) (news := Lib.byteCells l3) (L' := fun v56 => (.row BY 1 (v56) (0 + l1.length + l2.length + l3.length) (((([] ++ Lib.byteCells l1) ++ Lib.byteCells l2) ++ Lib.byteCells l3)) :: .row 24 1 (.slice (some ⟨gx, 0, none⟩) 3 3) 3 ([.slice s1 l1.length c1, .slice s2 l2.length c2, .slice s3 l3.length c3]) :: X)) hA rfl rfl rfl (m_appendA Try.underlying24 (by kernel_rfl) hM 0 rfl rfl (h3.below hM.bel) rfl (by first | omega | (simp only [List.length_nil]; omega))) (fun _ => rfl) ?_
 intro v56 w57 hM a hA
 refine seq_do hA rfl rfl rfl (does_assign rfl) ?_
 intro a hA
 refine seq_end ?_
 refine hK54 _ _ ?_
 refine wp_region_lit ?_
 refine seq_do (v := .int .i64 3) hA rfl rfl rfl (does_bin rfl rfl (fun w => by kernel_rfl)) ?_
 intro a hA
 refine seq_do hA rfl rfl rfl (does_move rfl) ?_
 intro a hA
 refine seq_end ?_
 refine hK51 _ _ ?_
 refine rounds_k ?_
 intro K58 hK58
 refine wp_seq_k (fun K59 hK59 => ?_)
 refine wp_region_lit ?_
 refine seq_do (v := .bool false) hA rfl rfl rfl (does_bin rfl rfl (fun w => by kernel_rfl)) ?_
 intro a hA
 refine seq_end ?_
 refine hK59 _ _ ?_
 refine wp_seq_k (fun K60 hK60 => ?_)
 refine wp_cond_false (hA.ev rfl) ?_
 refine wp_exit ?_
 refine hK35 _ _ ?_
 refine wp_seq_k (fun K61 hK61 => ?_)
 refine wp_region_lit ?_
 refine seq_do hA rfl rfl rfl (does_move rfl) ?_
 intro a hA
 refine seq_do hA rfl rfl rfl (does_assign rfl) ?_
 intro a hA
 refine seq_end ?_
 refine hK61 _ _ ?_
 refine wp_ret ?_
 refine hret _ _ ?_
 refine ends (v := v56) hA rfl (.cons (res_tmp rfl) .nil) rfl ?_
 have h9 := hM.sub (.cons_cons _ (.cons _ (.refl _)))
 have e9 : ([] ++ Lib.byteCells l1 ++ Lib.byteCells l2 ++ Lib.byteCells l3 : List Value) = Lib.byteCells (l1 ++ l2 ++ l3) := by simp [Lib.byteCells]
 have e8 : (l1 ++ l2 ++ l3).length = 0 + l1.length + l2.length + l3.length := by simp only [List.length_append, List.length_nil]; omega
 exact ⟨_, rfl, by rw [e8, ← e9]; exact h9⟩
end Go.Proofs.Ytcjgjbaadmohbaa
