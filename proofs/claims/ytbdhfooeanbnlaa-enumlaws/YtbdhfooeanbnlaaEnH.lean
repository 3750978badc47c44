/- The law of sets without the document. -/
import Derived.Test.YtbdhfooeanbnlaaEnF
namespace Go.Proofs.Ytbdhfooeanbnlaa
open Go.RowKit Go.Lib Go.Sort
set_option linter.unusedVariables false
set_option linter.unusedSimpArgs false
set_option maxRecDepth 100000
theorem EnH_is1_23 : Is1 Try.prog 23 := ⟨⟨_, Try.underlying23, rfl⟩, by kernel_rfl⟩
theorem EnH_fld_25_1 : FieldAt Try.prog 25 1 1 := ⟨_, _, Try.underlying25, rfl, rfl, by kernel_rfl⟩
theorem EnH_isS_25 : IsS Try.prog 25 2 := ⟨⟨_, Try.underlying25⟩, by kernel_rfl⟩
def sym (i : Nat) : ByteArray := ⟨[UInt8.ofNat (97 + i % 26), UInt8.ofNat (97 + i / 26)].toArray⟩
def symL (i : Nat) : List ByteArray := (List.range i).map sym
theorem conv8 (k : Nat) : IntKind.u8.wrap ((k : Nat) : Int) = (((UInt8.ofNat k).toNat : Nat) : Int) := by
  rw [IntKind.wrap_u8, UInt8.toNat_ofNat']
  omega
theorem sym_inj {i j : Nat} (hi : i < 64) (hj : j < 64) (h : sym i = sym j) : i = j := by
  have h1 : [UInt8.ofNat (97 + i % 26), UInt8.ofNat (97 + i / 26)] = [UInt8.ofNat (97 + j % 26), UInt8.ofNat (97 + j / 26)] := by
    have := congrArg (fun b : ByteArray => b.data.toList) h
    simpa [sym] using this
  simp only [List.cons.injEq, and_true] at h1
  have a1 := congrArg UInt8.toNat h1.1
  have a2 := congrArg UInt8.toNat h1.2
  rw [UInt8.toNat_ofNat', UInt8.toNat_ofNat'] at a1 a2
  omega
theorem symL_len (i : Nat) : (symL i).length = i := by simp [symL]
theorem symL_nodup {i : Nat} (h : i ≤ 64) : (symL i).Nodup := by
  refine nodup_of (fun a b s hab h1 h2 => ?_)
  have ha := (List.getElem?_eq_some_iff.1 h1).1
  have hb := (List.getElem?_eq_some_iff.1 h2).1
  rw [symL_len] at ha hb
  simp only [symL, List.getElem?_map, List.getElem?_range ha, List.getElem?_range hb, Option.map_some, Option.some.injEq] at h1 h2
  have := sym_inj (by omega) (by omega) (h1.trans h2.symm)
  omega
theorem symL_size {i : Nat} : ∀ s ∈ symL i, s.size ≤ 281474976710656 := by
  intro s hs
  obtain ⟨j, _, rfl⟩ := List.mem_map.1 hs
  show 2 ≤ _
  omega
theorem symL_step (i : Nat) : symL (i + 1) = symL i ++ [sym i] := by simp [symL, List.range_succ]
theorem laws_same {l : List ByteArray} {bx by_ bu bcu bcx bcy bm : List Bool} (h1 : bu = l.map fun s => hasS l bx s || hasS l by_ s) (h2 : bcu = l.map fun s => !hasS l bu s) (h3 : bcx = l.map fun s => !hasS l bx s) (h4 : bcy = l.map fun s => !hasS l by_ s) (h5 : bm = l.map fun s => hasS l bcx s && hasS l bcy s) : memS l bcu = memS l bm := by
  rw [h2, h5, mem_map, mem_map]
  refine List.filter_congr fun s hs => ?_
  rw [h1, h3, h4, has_map _ hs, has_map _ hs, has_map _ hs, Bool.not_or]
theorem laws_all {l : List ByteArray} {bx bcx ba b0 : List Bool} (h3 : bcx = l.map fun s => !hasS l bx s) (h4 : ba = l.map fun s => hasS l bx s || hasS l bcx s) (h0 : b0 = l.map fun _ => true) : memS l ba = memS l b0 := by
  rw [h4, h0, mem_map, mem_map]
  refine List.filter_congr fun s hs => ?_
  rw [h3, has_map _ hs, Bool.or_not_self]
theorem laws_none {l : List ByteArray} {bx bcx bn : List Bool} (h3 : bcx = l.map fun s => !hasS l bx s) (h4 : bn = l.map fun s => hasS l bx s && hasS l bcx s) : memS l bn = [] := by
  rw [h4, mem_map, List.filter_eq_nil_iff]
  intro s hs
  rw [h3, has_map _ hs, Bool.and_not_self]
  decide
theorem laws_sub {l : List ByteArray} {bx by_ bd : List Bool} (hsd : sndS l bx = true) (h : bd = l.map fun s => hasS l bx s && !hasS l by_ s) : ((!(memS l bx).any fun s => !hasS l by_ s) == ((((memS l bd).length : Nat) : Int) == 0)) = true := by
  rw [sub_eq hsd, h, mem_map]
  rcases Bool.eq_false_or_eq_true (l.any fun s => hasS l bx s && !hasS l by_ s) with k | k
  · have : l.filter (fun s => hasS l bx s && !hasS l by_ s) ≠ [] := by
      obtain ⟨s, h1, h2⟩ := List.any_eq_true.1 k
      exact List.ne_nil_of_mem (List.mem_filter.2 ⟨h1, h2⟩)
    have h3 : ((((l.filter (fun s => hasS l bx s && !hasS l by_ s)).length : Nat) : Int) == 0) = false := by
      have := List.length_pos_iff.2 this
      rw [beq_eq_false_iff_ne]
      omega
    rw [k, h3]
    rfl
  · have : l.filter (fun s => hasS l bx s && !hasS l by_ s) = [] := by
      rw [List.filter_eq_nil_iff]
      intro s hs
      rw [List.any_eq_false] at k
      exact k s hs
    rw [k, this]
    rfl
theorem bits_any {w : World} {x : Int} {c : Nat} (hc : c ≤ 64) : Calls Try.prog 25 #[.int .u64 x, .int .i64 ((c : Nat) : Int)] w fun e w' => ∃ so' ca' bs, bs.length = c ∧ e = .returned (.slice so' (bs : List Bool).length ca') ∧ Mg w w' [.row 4 1 (.slice so' bs.length ca') bs.length (boolC bs)] := by
 have hM : Mg w w ([]) := Mg.start w
 refine walk_of (l := [(0, .int .u64 x), (1, .int .i64 (((c : Nat) : Int)))]) Try.func25 rfl Try.ntmps25 rfl rfl ?_
 intro Q hret hnorm hP a hA
 refine wp_seq_k (fun K1 hK1 => ?_)
 refine wp_region_lit ?_
 refine seq_do hA rfl rfl rfl (does_assign rfl) ?_
 intro a hA
 refine seq_end ?_
 refine hK1 _ _ ?_
 refine wp_seq_k (fun K2 hK2 => ?_)
 refine wp_region_lit ?_
 refine s_litE (e := 4) (sz := 1) (m := 0) (vs := boolC []) hA hM rfl rfl rfl (does_buildSlice rfl (by kernel_rfl)) rfl rfl (.inl (by decide)) ?_
 intro g3 w4 hM a hA
 refine seq_do hA rfl rfl rfl (does_assign rfl) ?_
 intro a hA
 refine seq_end ?_
 refine hK2 _ _ ?_
 refine wp_seq_k (fun K5 hK5 => ?_)
 refine wp_seq_k (fun K6 hK6 => ?_)
 refine wp_region_lit ?_
 refine seq_do hA rfl rfl rfl (does_assign rfl) ?_
 intro a hA
 refine seq_end ?_
 refine hK6 _ _ ?_
 refine wp_block ?_
 refine wp_loop_n (fun m_ a w1 => ∃ (i : Nat) (xs : List Bool) (so_ : Option Addr) (ca_ : Nat), m_ = 1 + (c - i) ∧ (i ≤ c ∧ xs.length = i) ∧ Sl a 22 [(0, .int .u64 x), (1, .int .i64 (((c : Nat) : Int))), (4, .slice none 0 0), (5, .slice so_ xs.length ca_), (6, .int .i64 (((i : Nat) : Int))), (7, .slice (some ⟨g3, 0, none⟩) 0 0)] ∧ Mg w w1 (.row 4 1 (.slice so_ xs.length ca_) xs.length (boolC xs) :: [])) _ ⟨0, [], _, 0, rfl, ⟨Nat.zero_le _, rfl⟩, hA.keep _ ⟨rfl, rfl, rfl, rfl, rfl, rfl, trivial⟩, hM⟩ ?_
 clear hM hA
 rintro m_ a w7 ⟨i, xs, so_, ca_, rfl, hinv9, hA, hM⟩ K8 hK8
 obtain ⟨hi0, hxl⟩ := hinv9
 refine wp_seq_k (fun K10 hK10 => ?_)
 refine wp_seq_k (fun K11 hK11 => ?_)
 refine wp_region_lit ?_
 refine seq_do hA rfl rfl rfl (does_move rfl) ?_
 intro a hA
 refine seq_do hA rfl rfl rfl (does_move rfl) ?_
 intro a hA
 refine seq_do (v := .bool (decide (((i : Nat) : Int) < ((c : Nat) : Int)))) hA rfl rfl rfl (does_bin rfl rfl bin_lss) ?_
 intro a hA
 refine seq_end ?_
 refine hK11 _ _ ?_
 refine wp_cond_split (t := decide (((i : Nat) : Int) < ((c : Nat) : Int))) (hA.ev rfl) (fun hc12 => ?_) (fun hc12 => ?_)
 · have hc12' := of_decide_eq_true hc12
   refine wp_skip ?_
   refine hK10 _ _ ?_
   refine wp_seq_k (fun K13 hK13 => ?_)
   refine wp_block ?_
   refine wp_region_lit ?_
   refine seq_do hA rfl rfl rfl (does_move rfl) ?_
   intro a hA
   refine seq_do hA rfl rfl rfl (does_move rfl) ?_
   intro a hA
   refine seq_do hA rfl rfl rfl (does_move rfl) ?_
   intro a hA
   refine seq_do (v := .int .u64 (x / 2 ^ i)) hA rfl rfl rfl (does_bin rfl rfl (ar_shr (n := i) rfl (Nat.ble_eq_true_of_le (show i ≤ 64 by omega)) rfl)) ?_
   intro a hA
   refine seq_do (v := .int .u64 (bits .and .u64 (x / 2 ^ i) 1)) hA rfl rfl rfl (does_bin rfl rfl (ar_and rfl)) ?_
   intro a hA
   refine seq_do (v := .bool ((bits .and .u64 (x / 2 ^ i) 1 == 1))) hA rfl rfl rfl (does_bin rfl rfl bin_eql) ?_
   intro a hA
   refine s_litE (e := 4) (sz := 1) (m := 1) (vs := boolC [(bits .and .u64 (x / 2 ^ i) 1 == 1)]) hA hM rfl rfl rfl (does_buildSlice rfl (by kernel_rfl)) rfl rfl (.inl (by decide)) ?_
   intro g14 w15 hM a hA
   refine s_appendE (e := 4) (sz := 1) (k := 1) (q := xs.length) (m := 1) (xs := boolC xs) (news := boolC [(bits .and .u64 (x / 2 ^ i) 1 == 1)]) (L' := fun v16 => (.row 4 1 (.slice (some ⟨g14, 0, none⟩) 1 1) 1 (boolC [(bits .and .u64 (x / 2 ^ i) 1 == 1)]) :: .row 4 1 (v16) (xs.length + 1) (boolC xs ++ boolC [(bits .and .u64 (x / 2 ^ i) 1 == 1)]) :: [])) hA rfl rfl rfl (m_appX (z := .bool false) (sz := 1) (by_ := 1) Try.underlying23 (by kernel_rfl) rfl rfl rfl hM 1 rfl rfl rfl (boolC_n [(bits .and .u64 (x / 2 ^ i) 1 == 1)]) (rc_own (hM.has 0 rfl)) (boolC_one [(bits .and .u64 (x / 2 ^ i) 1 == 1)]) (by first | omega | (simp only [List.length_nil]; omega))) (fun _ => rfl) ?_
   intro v16 w17 hM a hA
   replace hM : Mg w w17 (.row 4 1 (.slice (some ⟨g14, 0, none⟩) 1 1) 1 (boolC [(bits .and .u64 (x / 2 ^ i) 1 == 1)]) :: .row 4 1 (v16) ((xs ++ [(bits .and .u64 (x / 2 ^ i) 1 == 1)]).length) (boolC (xs ++ [(bits .and .u64 (x / 2 ^ i) 1 == 1)])) :: []) := by
     rw [← boolC_app, List.length_append]; exact hM
   obtain ⟨so18, ca19, rfl⟩ := owns_any (hM.has 1 rfl)
   refine seq_do hA rfl rfl rfl (does_assign rfl) ?_
   intro a hA
   refine seq_end ?_
   refine hK13 _ _ ?_
   refine wp_region_lit ?_
   refine seq_do hA rfl rfl rfl (does_move rfl) ?_
   intro a hA
   refine seq_do (v := .int .i64 (((i + 1 : Nat) : Int))) hA rfl rfl rfl (does_bin rfl rfl (ar_add ((in_i64 (by omega) (by omega)).trans (by omega)))) ?_
   intro a hA
   refine seq_do hA rfl rfl rfl (does_assign rfl) ?_
   intro a hA
   refine seq_end ?_
   replace hM : Mg w w17 (.row 4 1 (.slice so18 ((xs ++ [(bits .and .u64 (x / 2 ^ i) 1 == 1)]).length) ca19) ((xs ++ [(bits .and .u64 (x / 2 ^ i) 1 == 1)]).length) (boolC (xs ++ [(bits .and .u64 (x / 2 ^ i) 1 == 1)])) :: []) := by
     have h9 := hM.sub (.cons _ (.cons_cons _ (.refl _)))
     exact h9
   refine hK8 _ _ _ (by omega) ⟨i + 1, xs ++ [(bits .and .u64 (x / 2 ^ i) 1 == 1)], so18, ca19, rfl, ⟨by omega, by simp [hxl]⟩, hA.keep _ ⟨rfl, rfl, rfl, rfl, rfl, rfl, trivial⟩, hM⟩
 · have hc12' := of_decide_eq_false hc12
   refine wp_exit ?_
   refine hK5 _ _ ?_
   refine wp_seq_k (fun K20 hK20 => ?_)
   refine wp_region_lit ?_
   refine seq_do hA rfl rfl rfl (does_move rfl) ?_
   intro a hA
   refine seq_do hA rfl rfl rfl (does_assign rfl) ?_
   intro a hA
   refine seq_end ?_
   refine hK20 _ _ ?_
   refine wp_ret ?_
   refine hret _ _ ?_
   refine ends (v := .slice so_ xs.length ca_) hA rfl (.cons (res_tmp rfl) .nil) rfl ?_
   exact ⟨_, _, xs, by omega, rfl, hM⟩
set_option maxHeartbeats 1000000 in
theorem laws_n {w : World} {n : Nat} {x y : Int} (h1 : n ≤ 255) : Calls Try.prog 5 #[.int .u8 ((n : Nat) : Int), .int .u64 x, .int .u64 y] w fun e w' => e = .returned (.bool true) ∧ Below w.heap.size w w' := by
 have hM : Mg w w ([]) := Mg.start w
 refine walk_of (l := [(0, .int .u8 (((n : Nat) : Int))), (1, .int .u64 x), (2, .int .u64 y)]) Try.func5 rfl Try.ntmps5 rfl rfl ?_
 intro Q hret hnorm hP a hA
 refine wp_seq_k (fun K1 hK1 => ?_)
 refine wp_region_lit ?_
 refine seq_do hA rfl rfl rfl (does_assign rfl) ?_
 intro a hA
 refine seq_end ?_
 refine hK1 _ _ ?_
 refine wp_seq_k (fun K2 hK2 => ?_)
 refine wp_region_lit ?_
 refine s_litE (e := 9) (sz := 1) (m := 0) (vs := strC []) hA hM rfl rfl rfl (does_buildSlice rfl (by kernel_rfl)) rfl rfl (.inl (by decide)) ?_
 intro g3 w4 hM a hA
 refine seq_do hA rfl rfl rfl (does_assign rfl) ?_
 intro a hA
 refine seq_end ?_
 refine hK2 _ _ ?_
 refine wp_seq_k (fun K5 hK5 => ?_)
 refine wp_seq_k (fun K6 hK6 => ?_)
 refine wp_region_lit ?_
 refine seq_do hA rfl rfl rfl (does_assign rfl) ?_
 intro a hA
 refine seq_end ?_
 refine hK6 _ _ ?_
 refine wp_block ?_
 refine wp_loop_n (fun m_ a w1 => ∃ (i : Nat) (xs : List ByteArray) (so_ : Option Addr) (ca_ : Nat), m_ = 1 + (n % 64 + 1 - i) ∧ (i ≤ n % 64 + 1 ∧ xs = symL i) ∧ Sl a 181 [(0, .int .u8 (((n : Nat) : Int))), (1, .int .u64 x), (2, .int .u64 y), (6, .bool false), (7, .slice so_ xs.length ca_), (8, .int .i64 (((i : Nat) : Int))), (35, .slice (some ⟨g3, 0, none⟩) 0 0)] ∧ Mg w w1 (.row 9 1 (.slice so_ xs.length ca_) xs.length (strC xs) :: [])) _ ⟨0, [], _, 0, rfl, ⟨Nat.zero_le _, rfl⟩, hA.keep _ ⟨rfl, rfl, rfl, rfl, rfl, rfl, rfl, trivial⟩, hM⟩ ?_
 clear hM hA
 rintro m_ a w7 ⟨i, xs, so_, ca_, rfl, hinv9, hA, hM⟩ K8 hK8
 obtain ⟨hi0, hxs⟩ := hinv9
 have hLx : xs.length = i := by rw [hxs, symL_len]
 refine wp_seq_k (fun K10 hK10 => ?_)
 refine wp_seq_k (fun K11 hK11 => ?_)
 refine wp_region_lit ?_
 refine seq_do hA rfl rfl rfl (does_move rfl) ?_
 intro a hA
 refine seq_do hA rfl rfl rfl (does_move rfl) ?_
 intro a hA
 refine seq_do (v := .int .u8 (((n % 64 : Nat) : Int))) hA rfl rfl rfl (does_bin rfl rfl (ar_rem (by decide) (by rw [Int.tmod_eq_emod_of_nonneg (by omega)]; omega))) ?_
 intro a hA
 refine seq_do (v := .int .i64 (((n % 64 : Nat) : Int))) hA rfl rfl rfl (does_convert rfl (ar_conv Try.underlying5 Try.underlying3 (in_i64 (by omega) (by omega)))) ?_
 intro a hA
 refine seq_do (v := .int .i64 (((n % 64 + 1 : Nat) : Int))) hA rfl rfl rfl (does_bin rfl rfl (ar_add ((in_i64 (by omega) (by omega)).trans (by omega)))) ?_
 intro a hA
 refine seq_do (v := .bool (decide (((i : Nat) : Int) < ((n % 64 + 1 : Nat) : Int)))) hA rfl rfl rfl (does_bin rfl rfl bin_lss) ?_
 intro a hA
 refine seq_end ?_
 refine hK11 _ _ ?_
 refine wp_cond_split (t := decide (((i : Nat) : Int) < ((n % 64 + 1 : Nat) : Int))) (hA.ev rfl) (fun hc12 => ?_) (fun hc12 => ?_)
 · have hc12' := of_decide_eq_true hc12
   refine wp_skip ?_
   refine hK10 _ _ ?_
   refine wp_seq_k (fun K13 hK13 => ?_)
   refine wp_block ?_
   refine wp_region_lit ?_
   refine seq_do hA rfl rfl rfl (does_move rfl) ?_
   intro a hA
   refine seq_do hA rfl rfl rfl (does_move rfl) ?_
   intro a hA
   refine seq_do (v := .int .i64 (((i % 26 : Nat) : Int))) hA rfl rfl rfl (does_bin rfl rfl (ar_rem (by decide) (by rw [Int.tmod_eq_emod_of_nonneg (by omega)]; omega))) ?_
   intro a hA
   refine seq_do (v := .int .i64 (((97 + i % 26 : Nat) : Int))) hA rfl rfl rfl (does_bin rfl rfl (ar_add ((in_i64 (by omega) (by omega)).trans (by omega)))) ?_
   intro a hA
   refine seq_do (v := .int .u8 ((((UInt8.ofNat (97 + i % 26)).toNat : Nat) : Int))) hA rfl rfl rfl (does_convert rfl (ar_conv Try.underlying3 Try.underlying5 (conv8 _))) ?_
   intro a hA
   refine seq_do hA rfl rfl rfl (does_move rfl) ?_
   intro a hA
   refine seq_do (v := .int .i64 (((i / 26 : Nat) : Int))) hA rfl rfl rfl (does_bin rfl rfl (ar_quo (by decide) (by rw [Int.tdiv_eq_ediv_of_nonneg (by omega)]; exact (in_i64 (by omega) (by omega)).trans (by omega)))) ?_
   intro a hA
   refine seq_do (v := .int .i64 (((97 + i / 26 : Nat) : Int))) hA rfl rfl rfl (does_bin rfl rfl (ar_add ((in_i64 (by omega) (by omega)).trans (by omega)))) ?_
   intro a hA
   refine seq_do (v := .int .u8 ((((UInt8.ofNat (97 + i / 26)).toNat : Nat) : Int))) hA rfl rfl rfl (does_convert rfl (ar_conv Try.underlying3 Try.underlying5 (conv8 _))) ?_
   intro a hA
   refine s_litE (e := BY) (sz := 1) (m := 2) (vs := Lib.byteCells [UInt8.ofNat (97 + i % 26), UInt8.ofNat (97 + i / 26)]) hA hM rfl rfl rfl (does_buildSlice rfl (by kernel_rfl)) rfl rfl (.inr (noBld_cons (by simp) (noBld_quiet quietL_nil))) ?_
   intro g14 w15 hM a hA
   refine seq_do (v := .string ((sym i))) hA rfl rfl rfl (does_convW rfl (conv_bytes Try.underlying50 Try.underlying5 Try.underlying9 (rb_row (bs := [UInt8.ofNat (97 + i % 26), UInt8.ofNat (97 + i / 26)]) hM 0 rfl).1 _)) ?_
   intro a hA
   refine s_litE (e := 9) (sz := 1) (m := 1) (vs := strC [(sym i)]) hA hM rfl rfl rfl (does_buildSlice rfl (by kernel_rfl)) rfl rfl (.inl (by decide)) ?_
   intro g16 w17 hM a hA
   refine s_appendE (e := 9) (sz := 1) (k := 2) (q := xs.length) (m := 1) (xs := strC xs) (news := strC [(sym i)]) (L' := fun v18 => (.row 9 1 (.slice (some ⟨g16, 0, none⟩) 1 1) 1 (strC [(sym i)]) :: .row BY 1 (.slice (some ⟨g14, 0, none⟩) 2 2) 2 (Lib.byteCells [UInt8.ofNat (97 + i % 26), UInt8.ofNat (97 + i / 26)]) :: .row 9 1 (v18) (xs.length + 1) (strC xs ++ strC [(sym i)]) :: [])) hA rfl rfl rfl (m_appX (z := .string ⟨#[]⟩) (sz := 1) (by_ := 16) Try.underlying22 (by kernel_rfl) rfl rfl rfl hM 2 rfl rfl rfl (strC_n [(sym i)]) (rc_own (hM.has 0 rfl)) (strC_one [(sym i)]) (by first | omega | (simp only [List.length_nil]; omega))) (fun _ => rfl) ?_
   intro v18 w19 hM a hA
   replace hM : Mg w w19 (.row 9 1 (.slice (some ⟨g16, 0, none⟩) 1 1) 1 (strC [(sym i)]) :: .row BY 1 (.slice (some ⟨g14, 0, none⟩) 2 2) 2 (Lib.byteCells [UInt8.ofNat (97 + i % 26), UInt8.ofNat (97 + i / 26)]) :: .row 9 1 (v18) ((xs ++ [(sym i)]).length) (strC (xs ++ [(sym i)])) :: []) := by
     rw [← strC_app, List.length_append]; exact hM
   obtain ⟨so20, ca21, rfl⟩ := owns_any (hM.has 2 rfl)
   refine seq_do hA rfl rfl rfl (does_assign rfl) ?_
   intro a hA
   refine seq_end ?_
   refine hK13 _ _ ?_
   refine wp_region_lit ?_
   refine seq_do hA rfl rfl rfl (does_move rfl) ?_
   intro a hA
   refine seq_do (v := .int .i64 (((i + 1 : Nat) : Int))) hA rfl rfl rfl (does_bin rfl rfl (ar_add ((in_i64 (by omega) (by omega)).trans (by omega)))) ?_
   intro a hA
   refine seq_do hA rfl rfl rfl (does_assign rfl) ?_
   intro a hA
   refine seq_end ?_
   replace hM : Mg w w19 (.row 9 1 (.slice so20 ((xs ++ [(sym i)]).length) ca21) ((xs ++ [(sym i)]).length) (strC (xs ++ [(sym i)])) :: []) := by
     have h9 := hM.sub (.cons _ (.cons _ (.cons_cons _ (.refl _))))
     exact h9
   refine hK8 _ _ _ (by omega) ⟨i + 1, xs ++ [sym i], so20, ca21, rfl, ⟨by omega, by rw [symL_step, hxs]⟩, hA.keep _ ⟨rfl, rfl, rfl, rfl, rfl, rfl, rfl, trivial⟩, hM⟩
 · have hc12' := of_decide_eq_false hc12
   refine wp_exit ?_
   refine hK5 _ _ ?_
   refine wp_seq_k (fun K22 hK22 => ?_)
   obtain rfl : i = n % 64 + 1 := by omega
   have hln : xs.length = n % 64 + 1 := by rw [hxs, symL_len]
   have h64 : xs.length ≤ 64 := by omega
   have hnd : xs.Nodup := by rw [hxs]; exact symL_nodup (by omega)
   have hs : ∀ s ∈ xs, s.size ≤ 281474976710656 := by rw [hxs]; exact symL_size
   have ht : twS xs = false := by simpa [twS] using hnd
   clear hxs
   refine wp_region_lit ?_
   refine seq_do hA rfl rfl rfl (does_move rfl) ?_
   intro a hA
   refine seq_call hA rfl rfl rfl (enters_func rfl rfl (fun w => by kernel_rfl)) (new_okN (l := xs) (rc_own (hM.has 0 rfl)) hs ht h64) ?_
   rintro _ w30 ⟨so23, ca24, si25, ci26, q27, hq28, rfl, hM29⟩
   replace hM : Mg w w30 (.row 9 1 (.slice so23 xs.length ca24) xs.length (strC xs) :: .row 4 1 (.slice si25 q27.length ci26) q27.length (boolC q27) :: .row 9 1 (.slice so_ xs.length ca_) xs.length (strC xs) :: []) := (hM.both hM29 (noBld_cons (by simp) (noBld_quiet quietL_nil)) (noBld_cons (by simp) (noBld_cons (by simp) (noBld_quiet quietL_nil))))
   refine ⟨_, rfl, ?_⟩
   intro a hA
   refine seq_do hA rfl rfl rfl (does_move rfl) ?_
   intro a hA
   refine seq_do (v := .agg #[.slice so23 xs.length ca24, .slice si25 q27.length ci26]) hA rfl rfl rfl (does_extract (vs := [.agg #[.slice so23 xs.length ca24, .slice si25 q27.length ci26], .int .i64 0]) rfl rfl) ?_
   intro a hA
   refine seq_do (v := .int .i64 0) hA rfl rfl rfl (does_extract (vs := [.agg #[.slice so23 xs.length ca24, .slice si25 q27.length ci26], .int .i64 0]) rfl rfl) ?_
   intro a hA
   refine s_new (vs := [.slice none 0 0, .slice none 0 0]) (t := 25) hA hM rfl rfl rfl (fun g => .pointer (some ⟨g, 0, none⟩)) (does_alloc (z := .agg #[.slice none 0 0, .slice none 0 0]) (by kernel_rfl) rfl) (by decide) ?_
   intro g31 w32 hM a hA
   refine s_store (us := [.slice so23 xs.length ca24, .slice si25 q27.length ci26]) (L' := (.obj g31 (.cells #[.slice so23 xs.length ca24, .slice si25 q27.length ci26] 25) :: .row 9 1 (.slice so23 xs.length ca24) xs.length (strC xs) :: .row 4 1 (.slice si25 q27.length ci26) q27.length (boolC q27) :: .row 9 1 (.slice so_ xs.length ca_) xs.length (strC xs) :: [])) hA hM rfl rfl (m_store rfl rfl rfl (by kernel_rfl) hM 0 rfl rfl rfl) 0 rfl rfl rfl ?_
   intro w33 hM
   refine seq_do hA rfl rfl rfl (does_assign rfl) ?_
   intro a hA
   refine seq_end ?_
   refine hK22 _ _ ?_
   refine wp_seq_k (fun K34 hK34 => ?_)
   refine wp_seq_k (fun K35 hK35 => ?_)
   refine wp_region_lit ?_
   refine seq_call hA rfl rfl rfl (enters_func rfl rfl (fun w => by kernel_rfl)) (awake_any) ?_
   rintro _ w37 ⟨rfl, hb36⟩
   replace hM := hM.call hb36
   refine ⟨_, rfl, ?_⟩
   intro a hA
   refine seq_do (v := .bool false) hA rfl rfl rfl (does_un rfl un_not) ?_
   intro a hA
   refine seq_do hA rfl rfl rfl (does_move rfl) ?_
   intro a hA
   refine seq_do hA rfl rfl rfl (does_move rfl) ?_
   intro a hA
   refine seq_do (v := .bool false) hA rfl rfl rfl (does_bin rfl rfl (fun w => by kernel_rfl)) ?_
   intro a hA
   refine seq_do (v := .bool false) hA rfl rfl rfl (does_pick rfl rfl rfl rfl) ?_
   intro a hA
   refine seq_do hA rfl rfl rfl (does_move rfl) ?_
   intro a hA
   refine seq_do (v := .pointer (some ⟨g31, 1, none⟩)) hA rfl rfl rfl (does_field EnH_fld_25_1 rfl rfl) ?_
   intro a hA
   refine seq_do hA rfl rfl rfl (m_load1 hM EnH_is1_23 rfl 0 rfl rfl) ?_
   intro a hA
   refine seq_do (v := .int .i64 (((q27.length : Nat) : Int))) hA rfl rfl rfl (does_len Try.underlying23 rfl) ?_
   intro a hA
   refine seq_do hA rfl rfl rfl (does_move rfl) ?_
   intro a hA
   refine seq_do (v := .int .i64 (((xs.length : Nat) : Int))) hA rfl rfl rfl (does_len Try.underlying22 rfl) ?_
   intro a hA
   refine seq_do (v := .bool false) hA rfl rfl rfl (does_bin rfl rfl (fun w => (bin_neq w).trans (by rw [show ((((q27.length : Nat) : Int) != ((xs.length : Nat) : Int))) = false from (by rw [show q27.length = xs.length from (by rw [hq28]; simp)]; exact bne_self_eq_false _)]))) ?_
   intro a hA
   refine seq_do (v := .bool false) hA rfl rfl rfl (does_pick rfl rfl rfl rfl) ?_
   intro a hA
   refine seq_end ?_
   refine hK35 _ _ ?_
   refine wp_cond_false (hA.ev rfl) ?_
   refine wp_skip ?_
   refine hK34 _ _ ?_
   refine wp_seq_k (fun K38 hK38 => ?_)
   refine wp_region_lit ?_
   refine seq_do hA rfl rfl rfl (does_move rfl) ?_
   intro a hA
   refine seq_do hA rfl rfl rfl (does_move rfl) ?_
   intro a hA
   refine seq_do hA rfl rfl rfl (does_move rfl) ?_
   intro a hA
   refine seq_do (v := .int .i64 (((xs.length : Nat) : Int))) hA rfl rfl rfl (does_len Try.underlying22 rfl) ?_
   intro a hA
   refine seq_call hA rfl rfl rfl (enters_func rfl rfl (fun w => by kernel_rfl)) (bits_any h64) ?_
   rintro _ w44 ⟨so39, ca40, q41, hq42, rfl, hM43⟩
   replace hM : Mg w w44 (.row 4 1 (.slice so39 q41.length ca40) q41.length (boolC q41) :: .obj g31 (.cells #[.slice so23 xs.length ca24, .slice si25 q27.length ci26] 25) :: .row 9 1 (.slice so23 xs.length ca24) xs.length (strC xs) :: .row 4 1 (.slice si25 q27.length ci26) q27.length (boolC q27) :: .row 9 1 (.slice so_ xs.length ca_) xs.length (strC xs) :: []) := (hM.both hM43 (noBld_cons (by simp) (noBld_cons (by simp) (noBld_cons (by simp) (noBld_cons (by simp) (noBld_quiet quietL_nil))))) (noBld_cons (by simp) (noBld_quiet quietL_nil)))
   refine ⟨_, rfl, ?_⟩
   intro a hA
   refine seq_do (v := .agg #[.slice so_ xs.length ca_, .slice so39 q41.length ca40]) hA rfl rfl rfl (does_build rfl (fun w => by kernel_rfl)) ?_
   intro a hA
   refine s_new (vs := [.slice none 0 0, .slice none 0 0]) (t := 25) hA hM rfl rfl rfl (fun g => .pointer (some ⟨g, 0, none⟩)) (does_alloc (z := .agg #[.slice none 0 0, .slice none 0 0]) (by kernel_rfl) rfl) (by decide) ?_
   intro g45 w46 hM a hA
   refine s_store (us := [.slice so_ xs.length ca_, .slice so39 q41.length ca40]) (L' := (.obj g45 (.cells #[.slice so_ xs.length ca_, .slice so39 q41.length ca40] 25) :: .row 4 1 (.slice so39 q41.length ca40) q41.length (boolC q41) :: .obj g31 (.cells #[.slice so23 xs.length ca24, .slice si25 q27.length ci26] 25) :: .row 9 1 (.slice so23 xs.length ca24) xs.length (strC xs) :: .row 4 1 (.slice si25 q27.length ci26) q27.length (boolC q27) :: .row 9 1 (.slice so_ xs.length ca_) xs.length (strC xs) :: [])) hA hM rfl rfl (m_store rfl rfl rfl (by kernel_rfl) hM 0 rfl rfl rfl) 0 rfl rfl rfl ?_
   intro w47 hM
   refine seq_end ?_
   refine hK38 _ _ ?_
   refine wp_seq_k (fun K48 hK48 => ?_)
   refine wp_region_lit ?_
   refine seq_do hA rfl rfl rfl (does_move rfl) ?_
   intro a hA
   refine seq_do hA rfl rfl rfl (does_move rfl) ?_
   intro a hA
   refine seq_do hA rfl rfl rfl (does_move rfl) ?_
   intro a hA
   refine seq_do (v := .int .i64 (((xs.length : Nat) : Int))) hA rfl rfl rfl (does_len Try.underlying22 rfl) ?_
   intro a hA
   refine seq_call hA rfl rfl rfl (enters_func rfl rfl (fun w => by kernel_rfl)) (bits_any h64) ?_
   rintro _ w54 ⟨so49, ca50, q51, hq52, rfl, hM53⟩
   replace hM : Mg w w54 (.row 4 1 (.slice so49 q51.length ca50) q51.length (boolC q51) :: .obj g45 (.cells #[.slice so_ xs.length ca_, .slice so39 q41.length ca40] 25) :: .row 4 1 (.slice so39 q41.length ca40) q41.length (boolC q41) :: .obj g31 (.cells #[.slice so23 xs.length ca24, .slice si25 q27.length ci26] 25) :: .row 9 1 (.slice so23 xs.length ca24) xs.length (strC xs) :: .row 4 1 (.slice si25 q27.length ci26) q27.length (boolC q27) :: .row 9 1 (.slice so_ xs.length ca_) xs.length (strC xs) :: []) := (hM.both hM53 (noBld_cons (by simp) (noBld_cons (by simp) (noBld_cons (by simp) (noBld_cons (by simp) (noBld_cons (by simp) (noBld_cons (by simp) (noBld_quiet quietL_nil))))))) (noBld_cons (by simp) (noBld_quiet quietL_nil)))
   refine ⟨_, rfl, ?_⟩
   intro a hA
   refine seq_do (v := .agg #[.slice so_ xs.length ca_, .slice so49 q51.length ca50]) hA rfl rfl rfl (does_build rfl (fun w => by kernel_rfl)) ?_
   intro a hA
   refine s_new (vs := [.slice none 0 0, .slice none 0 0]) (t := 25) hA hM rfl rfl rfl (fun g => .pointer (some ⟨g, 0, none⟩)) (does_alloc (z := .agg #[.slice none 0 0, .slice none 0 0]) (by kernel_rfl) rfl) (by decide) ?_
   intro g55 w56 hM a hA
   refine s_store (us := [.slice so_ xs.length ca_, .slice so49 q51.length ca50]) (L' := (.obj g55 (.cells #[.slice so_ xs.length ca_, .slice so49 q51.length ca50] 25) :: .row 4 1 (.slice so49 q51.length ca50) q51.length (boolC q51) :: .obj g45 (.cells #[.slice so_ xs.length ca_, .slice so39 q41.length ca40] 25) :: .row 4 1 (.slice so39 q41.length ca40) q41.length (boolC q41) :: .obj g31 (.cells #[.slice so23 xs.length ca24, .slice si25 q27.length ci26] 25) :: .row 9 1 (.slice so23 xs.length ca24) xs.length (strC xs) :: .row 4 1 (.slice si25 q27.length ci26) q27.length (boolC q27) :: .row 9 1 (.slice so_ xs.length ca_) xs.length (strC xs) :: [])) hA hM rfl rfl (m_store rfl rfl rfl (by kernel_rfl) hM 0 rfl rfl rfl) 0 rfl rfl rfl ?_
   intro w57 hM
   refine seq_end ?_
   refine hK48 _ _ ?_
   refine wp_seq_k (fun K58 hK58 => ?_)
   refine wp_region_lit ?_
   refine seq_do hA rfl rfl rfl (m_loadS hM EnH_isS_25 rfl 2 rfl (cs := [.slice so_ xs.length ca_, .slice so39 q41.length ca40]) rfl rfl) ?_
   intro a hA
   refine seq_do hA rfl rfl rfl (m_loadS hM EnH_isS_25 rfl 0 rfl (cs := [.slice so_ xs.length ca_, .slice so49 q51.length ca50]) rfl rfl) ?_
   intro a hA
   refine seq_call hA rfl rfl rfl (enters_func rfl rfl (fun w => by kernel_rfl)) (union_okN (l := xs) (rc_own (hM.has 7 rfl)) (rc_own (hM.has 3 rfl)) (rc_own (hM.has 7 rfl)) (rc_own (hM.has 1 rfl)) hs (snd_of h64 hq42 hnd) (snd_of h64 hq52 hnd) (decide_eq_true rfl)) ?_
   rintro _ w66 ⟨so59, ca60, si61, ci62, q63, hq64, rfl, hM65⟩
   replace hM : Mg w w66 (.row 9 1 (.slice so59 xs.length ca60) xs.length (strC xs) :: .row 4 1 (.slice si61 q63.length ci62) q63.length (boolC q63) :: .obj g55 (.cells #[.slice so_ xs.length ca_, .slice so49 q51.length ca50] 25) :: .row 4 1 (.slice so49 q51.length ca50) q51.length (boolC q51) :: .obj g45 (.cells #[.slice so_ xs.length ca_, .slice so39 q41.length ca40] 25) :: .row 4 1 (.slice so39 q41.length ca40) q41.length (boolC q41) :: .obj g31 (.cells #[.slice so23 xs.length ca24, .slice si25 q27.length ci26] 25) :: .row 9 1 (.slice so23 xs.length ca24) xs.length (strC xs) :: .row 4 1 (.slice si25 q27.length ci26) q27.length (boolC q27) :: .row 9 1 (.slice so_ xs.length ca_) xs.length (strC xs) :: []) := (hM.both hM65 (noBld_cons (by simp) (noBld_cons (by simp) (noBld_cons (by simp) (noBld_cons (by simp) (noBld_cons (by simp) (noBld_cons (by simp) (noBld_cons (by simp) (noBld_cons (by simp) (noBld_quiet quietL_nil))))))))) (noBld_cons (by simp) (noBld_cons (by simp) (noBld_quiet quietL_nil))))
   refine ⟨_, rfl, ?_⟩
   intro a hA
   refine seq_do hA rfl rfl rfl (does_move rfl) ?_
   intro a hA
   refine seq_do (v := .agg #[.slice so59 xs.length ca60, .slice si61 q63.length ci62]) hA rfl rfl rfl (does_extract (vs := [.agg #[.slice so59 xs.length ca60, .slice si61 q63.length ci62], .int .i64 0]) rfl rfl) ?_
   intro a hA
   refine seq_do (v := .int .i64 0) hA rfl rfl rfl (does_extract (vs := [.agg #[.slice so59 xs.length ca60, .slice si61 q63.length ci62], .int .i64 0]) rfl rfl) ?_
   intro a hA
   refine s_new (vs := [.slice none 0 0, .slice none 0 0]) (t := 25) hA hM rfl rfl rfl (fun g => .pointer (some ⟨g, 0, none⟩)) (does_alloc (z := .agg #[.slice none 0 0, .slice none 0 0]) (by kernel_rfl) rfl) (by decide) ?_
   intro g67 w68 hM a hA
   refine s_store (us := [.slice so59 xs.length ca60, .slice si61 q63.length ci62]) (L' := (.obj g67 (.cells #[.slice so59 xs.length ca60, .slice si61 q63.length ci62] 25) :: .row 9 1 (.slice so59 xs.length ca60) xs.length (strC xs) :: .row 4 1 (.slice si61 q63.length ci62) q63.length (boolC q63) :: .obj g55 (.cells #[.slice so_ xs.length ca_, .slice so49 q51.length ca50] 25) :: .row 4 1 (.slice so49 q51.length ca50) q51.length (boolC q51) :: .obj g45 (.cells #[.slice so_ xs.length ca_, .slice so39 q41.length ca40] 25) :: .row 4 1 (.slice so39 q41.length ca40) q41.length (boolC q41) :: .obj g31 (.cells #[.slice so23 xs.length ca24, .slice si25 q27.length ci26] 25) :: .row 9 1 (.slice so23 xs.length ca24) xs.length (strC xs) :: .row 4 1 (.slice si25 q27.length ci26) q27.length (boolC q27) :: .row 9 1 (.slice so_ xs.length ca_) xs.length (strC xs) :: [])) hA hM rfl rfl (m_store rfl rfl rfl (by kernel_rfl) hM 0 rfl rfl rfl) 0 rfl rfl rfl ?_
   intro w69 hM
   refine seq_do hA rfl rfl rfl (does_assign rfl) ?_
   intro a hA
   refine seq_end ?_
   refine hK58 _ _ ?_
   refine wp_seq_k (fun K70 hK70 => ?_)
   refine wp_region_lit ?_
   refine seq_do hA rfl rfl rfl (m_loadS hM EnH_isS_25 rfl 0 rfl (cs := [.slice so59 xs.length ca60, .slice si61 q63.length ci62]) rfl rfl) ?_
   intro a hA
   refine seq_call hA rfl rfl rfl (enters_func rfl rfl (fun w => by kernel_rfl)) (comp_okN (l := xs) (rc_own (hM.has 1 rfl)) (rc_own (hM.has 2 rfl)) hs (snd_of h64 (by rw [hq64]; simp) hnd)) ?_
   rintro _ w78 ⟨so71, ca72, si73, ci74, q75, hq76, rfl, hM77⟩
   replace hM : Mg w w78 (.row 9 1 (.slice so71 xs.length ca72) xs.length (strC xs) :: .row 4 1 (.slice si73 q75.length ci74) q75.length (boolC q75) :: .obj g67 (.cells #[.slice so59 xs.length ca60, .slice si61 q63.length ci62] 25) :: .row 9 1 (.slice so59 xs.length ca60) xs.length (strC xs) :: .row 4 1 (.slice si61 q63.length ci62) q63.length (boolC q63) :: .obj g55 (.cells #[.slice so_ xs.length ca_, .slice so49 q51.length ca50] 25) :: .row 4 1 (.slice so49 q51.length ca50) q51.length (boolC q51) :: .obj g45 (.cells #[.slice so_ xs.length ca_, .slice so39 q41.length ca40] 25) :: .row 4 1 (.slice so39 q41.length ca40) q41.length (boolC q41) :: .obj g31 (.cells #[.slice so23 xs.length ca24, .slice si25 q27.length ci26] 25) :: .row 9 1 (.slice so23 xs.length ca24) xs.length (strC xs) :: .row 4 1 (.slice si25 q27.length ci26) q27.length (boolC q27) :: .row 9 1 (.slice so_ xs.length ca_) xs.length (strC xs) :: []) := (hM.both hM77 (noBld_cons (by simp) (noBld_cons (by simp) (noBld_cons (by simp) (noBld_cons (by simp) (noBld_cons (by simp) (noBld_cons (by simp) (noBld_cons (by simp) (noBld_cons (by simp) (noBld_cons (by simp) (noBld_cons (by simp) (noBld_cons (by simp) (noBld_quiet quietL_nil)))))))))))) (noBld_cons (by simp) (noBld_cons (by simp) (noBld_quiet quietL_nil))))
   refine ⟨_, rfl, ?_⟩
   intro a hA
   refine seq_do hA rfl rfl rfl (does_move rfl) ?_
   intro a hA
   refine seq_do (v := .agg #[.slice so71 xs.length ca72, .slice si73 q75.length ci74]) hA rfl rfl rfl (does_extract (vs := [.agg #[.slice so71 xs.length ca72, .slice si73 q75.length ci74], .int .i64 0]) rfl rfl) ?_
   intro a hA
   refine seq_do (v := .int .i64 0) hA rfl rfl rfl (does_extract (vs := [.agg #[.slice so71 xs.length ca72, .slice si73 q75.length ci74], .int .i64 0]) rfl rfl) ?_
   intro a hA
   refine s_new (vs := [.slice none 0 0, .slice none 0 0]) (t := 25) hA hM rfl rfl rfl (fun g => .pointer (some ⟨g, 0, none⟩)) (does_alloc (z := .agg #[.slice none 0 0, .slice none 0 0]) (by kernel_rfl) rfl) (by decide) ?_
   intro g79 w80 hM a hA
   refine s_store (us := [.slice so71 xs.length ca72, .slice si73 q75.length ci74]) (L' := (.obj g79 (.cells #[.slice so71 xs.length ca72, .slice si73 q75.length ci74] 25) :: .row 9 1 (.slice so71 xs.length ca72) xs.length (strC xs) :: .row 4 1 (.slice si73 q75.length ci74) q75.length (boolC q75) :: .obj g67 (.cells #[.slice so59 xs.length ca60, .slice si61 q63.length ci62] 25) :: .row 9 1 (.slice so59 xs.length ca60) xs.length (strC xs) :: .row 4 1 (.slice si61 q63.length ci62) q63.length (boolC q63) :: .obj g55 (.cells #[.slice so_ xs.length ca_, .slice so49 q51.length ca50] 25) :: .row 4 1 (.slice so49 q51.length ca50) q51.length (boolC q51) :: .obj g45 (.cells #[.slice so_ xs.length ca_, .slice so39 q41.length ca40] 25) :: .row 4 1 (.slice so39 q41.length ca40) q41.length (boolC q41) :: .obj g31 (.cells #[.slice so23 xs.length ca24, .slice si25 q27.length ci26] 25) :: .row 9 1 (.slice so23 xs.length ca24) xs.length (strC xs) :: .row 4 1 (.slice si25 q27.length ci26) q27.length (boolC q27) :: .row 9 1 (.slice so_ xs.length ca_) xs.length (strC xs) :: [])) hA hM rfl rfl (m_store rfl rfl rfl (by kernel_rfl) hM 0 rfl rfl rfl) 0 rfl rfl rfl ?_
   intro w81 hM
   refine seq_do hA rfl rfl rfl (does_assign rfl) ?_
   intro a hA
   refine seq_end ?_
   refine hK70 _ _ ?_
   refine wp_seq_k (fun K82 hK82 => ?_)
   refine wp_region_lit ?_
   refine seq_do hA rfl rfl rfl (m_loadS hM EnH_isS_25 rfl 8 rfl (cs := [.slice so_ xs.length ca_, .slice so39 q41.length ca40]) rfl rfl) ?_
   intro a hA
   refine seq_call hA rfl rfl rfl (enters_func rfl rfl (fun w => by kernel_rfl)) (comp_okN (l := xs) (rc_own (hM.has 13 rfl)) (rc_own (hM.has 9 rfl)) hs (snd_of h64 hq42 hnd)) ?_
   rintro _ w90 ⟨so83, ca84, si85, ci86, q87, hq88, rfl, hM89⟩
   replace hM : Mg w w90 (.row 9 1 (.slice so83 xs.length ca84) xs.length (strC xs) :: .row 4 1 (.slice si85 q87.length ci86) q87.length (boolC q87) :: .obj g79 (.cells #[.slice so71 xs.length ca72, .slice si73 q75.length ci74] 25) :: .row 9 1 (.slice so71 xs.length ca72) xs.length (strC xs) :: .row 4 1 (.slice si73 q75.length ci74) q75.length (boolC q75) :: .obj g67 (.cells #[.slice so59 xs.length ca60, .slice si61 q63.length ci62] 25) :: .row 9 1 (.slice so59 xs.length ca60) xs.length (strC xs) :: .row 4 1 (.slice si61 q63.length ci62) q63.length (boolC q63) :: .obj g55 (.cells #[.slice so_ xs.length ca_, .slice so49 q51.length ca50] 25) :: .row 4 1 (.slice so49 q51.length ca50) q51.length (boolC q51) :: .obj g45 (.cells #[.slice so_ xs.length ca_, .slice so39 q41.length ca40] 25) :: .row 4 1 (.slice so39 q41.length ca40) q41.length (boolC q41) :: .obj g31 (.cells #[.slice so23 xs.length ca24, .slice si25 q27.length ci26] 25) :: .row 9 1 (.slice so23 xs.length ca24) xs.length (strC xs) :: .row 4 1 (.slice si25 q27.length ci26) q27.length (boolC q27) :: .row 9 1 (.slice so_ xs.length ca_) xs.length (strC xs) :: []) := (hM.both hM89 (noBld_cons (by simp) (noBld_cons (by simp) (noBld_cons (by simp) (noBld_cons (by simp) (noBld_cons (by simp) (noBld_cons (by simp) (noBld_cons (by simp) (noBld_cons (by simp) (noBld_cons (by simp) (noBld_cons (by simp) (noBld_cons (by simp) (noBld_cons (by simp) (noBld_cons (by simp) (noBld_cons (by simp) (noBld_quiet quietL_nil))))))))))))))) (noBld_cons (by simp) (noBld_cons (by simp) (noBld_quiet quietL_nil))))
   refine ⟨_, rfl, ?_⟩
   intro a hA
   refine seq_do hA rfl rfl rfl (does_move rfl) ?_
   intro a hA
   refine seq_do (v := .agg #[.slice so83 xs.length ca84, .slice si85 q87.length ci86]) hA rfl rfl rfl (does_extract (vs := [.agg #[.slice so83 xs.length ca84, .slice si85 q87.length ci86], .int .i64 0]) rfl rfl) ?_
   intro a hA
   refine seq_do (v := .int .i64 0) hA rfl rfl rfl (does_extract (vs := [.agg #[.slice so83 xs.length ca84, .slice si85 q87.length ci86], .int .i64 0]) rfl rfl) ?_
   intro a hA
   refine s_new (vs := [.slice none 0 0, .slice none 0 0]) (t := 25) hA hM rfl rfl rfl (fun g => .pointer (some ⟨g, 0, none⟩)) (does_alloc (z := .agg #[.slice none 0 0, .slice none 0 0]) (by kernel_rfl) rfl) (by decide) ?_
   intro g91 w92 hM a hA
   refine s_store (us := [.slice so83 xs.length ca84, .slice si85 q87.length ci86]) (L' := (.obj g91 (.cells #[.slice so83 xs.length ca84, .slice si85 q87.length ci86] 25) :: .row 9 1 (.slice so83 xs.length ca84) xs.length (strC xs) :: .row 4 1 (.slice si85 q87.length ci86) q87.length (boolC q87) :: .obj g79 (.cells #[.slice so71 xs.length ca72, .slice si73 q75.length ci74] 25) :: .row 9 1 (.slice so71 xs.length ca72) xs.length (strC xs) :: .row 4 1 (.slice si73 q75.length ci74) q75.length (boolC q75) :: .obj g67 (.cells #[.slice so59 xs.length ca60, .slice si61 q63.length ci62] 25) :: .row 9 1 (.slice so59 xs.length ca60) xs.length (strC xs) :: .row 4 1 (.slice si61 q63.length ci62) q63.length (boolC q63) :: .obj g55 (.cells #[.slice so_ xs.length ca_, .slice so49 q51.length ca50] 25) :: .row 4 1 (.slice so49 q51.length ca50) q51.length (boolC q51) :: .obj g45 (.cells #[.slice so_ xs.length ca_, .slice so39 q41.length ca40] 25) :: .row 4 1 (.slice so39 q41.length ca40) q41.length (boolC q41) :: .obj g31 (.cells #[.slice so23 xs.length ca24, .slice si25 q27.length ci26] 25) :: .row 9 1 (.slice so23 xs.length ca24) xs.length (strC xs) :: .row 4 1 (.slice si25 q27.length ci26) q27.length (boolC q27) :: .row 9 1 (.slice so_ xs.length ca_) xs.length (strC xs) :: [])) hA hM rfl rfl (m_store rfl rfl rfl (by kernel_rfl) hM 0 rfl rfl rfl) 0 rfl rfl rfl ?_
   intro w93 hM
   refine seq_do hA rfl rfl rfl (does_assign rfl) ?_
   intro a hA
   refine seq_end ?_
   refine hK82 _ _ ?_
   refine wp_seq_k (fun K94 hK94 => ?_)
   refine wp_region_lit ?_
   refine seq_do hA rfl rfl rfl (m_loadS hM EnH_isS_25 rfl 9 rfl (cs := [.slice so_ xs.length ca_, .slice so49 q51.length ca50]) rfl rfl) ?_
   intro a hA
   refine seq_call hA rfl rfl rfl (enters_func rfl rfl (fun w => by kernel_rfl)) (comp_okN (l := xs) (rc_own (hM.has 16 rfl)) (rc_own (hM.has 10 rfl)) hs (snd_of h64 hq52 hnd)) ?_
   rintro _ w102 ⟨so95, ca96, si97, ci98, q99, hq100, rfl, hM101⟩
   replace hM : Mg w w102 (.row 9 1 (.slice so95 xs.length ca96) xs.length (strC xs) :: .row 4 1 (.slice si97 q99.length ci98) q99.length (boolC q99) :: .obj g91 (.cells #[.slice so83 xs.length ca84, .slice si85 q87.length ci86] 25) :: .row 9 1 (.slice so83 xs.length ca84) xs.length (strC xs) :: .row 4 1 (.slice si85 q87.length ci86) q87.length (boolC q87) :: .obj g79 (.cells #[.slice so71 xs.length ca72, .slice si73 q75.length ci74] 25) :: .row 9 1 (.slice so71 xs.length ca72) xs.length (strC xs) :: .row 4 1 (.slice si73 q75.length ci74) q75.length (boolC q75) :: .obj g67 (.cells #[.slice so59 xs.length ca60, .slice si61 q63.length ci62] 25) :: .row 9 1 (.slice so59 xs.length ca60) xs.length (strC xs) :: .row 4 1 (.slice si61 q63.length ci62) q63.length (boolC q63) :: .obj g55 (.cells #[.slice so_ xs.length ca_, .slice so49 q51.length ca50] 25) :: .row 4 1 (.slice so49 q51.length ca50) q51.length (boolC q51) :: .obj g45 (.cells #[.slice so_ xs.length ca_, .slice so39 q41.length ca40] 25) :: .row 4 1 (.slice so39 q41.length ca40) q41.length (boolC q41) :: .obj g31 (.cells #[.slice so23 xs.length ca24, .slice si25 q27.length ci26] 25) :: .row 9 1 (.slice so23 xs.length ca24) xs.length (strC xs) :: .row 4 1 (.slice si25 q27.length ci26) q27.length (boolC q27) :: .row 9 1 (.slice so_ xs.length ca_) xs.length (strC xs) :: []) := (hM.both hM101 (noBld_cons (by simp) (noBld_cons (by simp) (noBld_cons (by simp) (noBld_cons (by simp) (noBld_cons (by simp) (noBld_cons (by simp) (noBld_cons (by simp) (noBld_cons (by simp) (noBld_cons (by simp) (noBld_cons (by simp) (noBld_cons (by simp) (noBld_cons (by simp) (noBld_cons (by simp) (noBld_cons (by simp) (noBld_cons (by simp) (noBld_cons (by simp) (noBld_cons (by simp) (noBld_quiet quietL_nil)))))))))))))))))) (noBld_cons (by simp) (noBld_cons (by simp) (noBld_quiet quietL_nil))))
   refine ⟨_, rfl, ?_⟩
   intro a hA
   refine seq_do hA rfl rfl rfl (does_move rfl) ?_
   intro a hA
   refine seq_do (v := .agg #[.slice so95 xs.length ca96, .slice si97 q99.length ci98]) hA rfl rfl rfl (does_extract (vs := [.agg #[.slice so95 xs.length ca96, .slice si97 q99.length ci98], .int .i64 0]) rfl rfl) ?_
   intro a hA
   refine seq_do (v := .int .i64 0) hA rfl rfl rfl (does_extract (vs := [.agg #[.slice so95 xs.length ca96, .slice si97 q99.length ci98], .int .i64 0]) rfl rfl) ?_
   intro a hA
   refine s_new (vs := [.slice none 0 0, .slice none 0 0]) (t := 25) hA hM rfl rfl rfl (fun g => .pointer (some ⟨g, 0, none⟩)) (does_alloc (z := .agg #[.slice none 0 0, .slice none 0 0]) (by kernel_rfl) rfl) (by decide) ?_
   intro g103 w104 hM a hA
   refine s_store (us := [.slice so95 xs.length ca96, .slice si97 q99.length ci98]) (L' := (.obj g103 (.cells #[.slice so95 xs.length ca96, .slice si97 q99.length ci98] 25) :: .row 9 1 (.slice so95 xs.length ca96) xs.length (strC xs) :: .row 4 1 (.slice si97 q99.length ci98) q99.length (boolC q99) :: .obj g91 (.cells #[.slice so83 xs.length ca84, .slice si85 q87.length ci86] 25) :: .row 9 1 (.slice so83 xs.length ca84) xs.length (strC xs) :: .row 4 1 (.slice si85 q87.length ci86) q87.length (boolC q87) :: .obj g79 (.cells #[.slice so71 xs.length ca72, .slice si73 q75.length ci74] 25) :: .row 9 1 (.slice so71 xs.length ca72) xs.length (strC xs) :: .row 4 1 (.slice si73 q75.length ci74) q75.length (boolC q75) :: .obj g67 (.cells #[.slice so59 xs.length ca60, .slice si61 q63.length ci62] 25) :: .row 9 1 (.slice so59 xs.length ca60) xs.length (strC xs) :: .row 4 1 (.slice si61 q63.length ci62) q63.length (boolC q63) :: .obj g55 (.cells #[.slice so_ xs.length ca_, .slice so49 q51.length ca50] 25) :: .row 4 1 (.slice so49 q51.length ca50) q51.length (boolC q51) :: .obj g45 (.cells #[.slice so_ xs.length ca_, .slice so39 q41.length ca40] 25) :: .row 4 1 (.slice so39 q41.length ca40) q41.length (boolC q41) :: .obj g31 (.cells #[.slice so23 xs.length ca24, .slice si25 q27.length ci26] 25) :: .row 9 1 (.slice so23 xs.length ca24) xs.length (strC xs) :: .row 4 1 (.slice si25 q27.length ci26) q27.length (boolC q27) :: .row 9 1 (.slice so_ xs.length ca_) xs.length (strC xs) :: [])) hA hM rfl rfl (m_store rfl rfl rfl (by kernel_rfl) hM 0 rfl rfl rfl) 0 rfl rfl rfl ?_
   intro w105 hM
   refine seq_do hA rfl rfl rfl (does_assign rfl) ?_
   intro a hA
   refine seq_end ?_
   refine hK94 _ _ ?_
   refine wp_seq_k (fun K106 hK106 => ?_)
   refine wp_region_lit ?_
   refine seq_do hA rfl rfl rfl (m_loadS hM EnH_isS_25 rfl 3 rfl (cs := [.slice so83 xs.length ca84, .slice si85 q87.length ci86]) rfl rfl) ?_
   intro a hA
   refine seq_do hA rfl rfl rfl (m_loadS hM EnH_isS_25 rfl 0 rfl (cs := [.slice so95 xs.length ca96, .slice si97 q99.length ci98]) rfl rfl) ?_
   intro a hA
   refine seq_call hA rfl rfl rfl (enters_func rfl rfl (fun w => by kernel_rfl)) (meet_okN (l := xs) (rc_own (hM.has 4 rfl)) (rc_own (hM.has 5 rfl)) (rc_own (hM.has 1 rfl)) (rc_own (hM.has 2 rfl)) hs (snd_of h64 (by rw [hq88]; simp) hnd) (snd_of h64 (by rw [hq100]; simp) hnd) (decide_eq_true rfl)) ?_
   rintro _ w114 ⟨so107, ca108, si109, ci110, q111, hq112, rfl, hM113⟩
   replace hM : Mg w w114 (.row 9 1 (.slice so107 xs.length ca108) xs.length (strC xs) :: .row 4 1 (.slice si109 q111.length ci110) q111.length (boolC q111) :: .obj g103 (.cells #[.slice so95 xs.length ca96, .slice si97 q99.length ci98] 25) :: .row 9 1 (.slice so95 xs.length ca96) xs.length (strC xs) :: .row 4 1 (.slice si97 q99.length ci98) q99.length (boolC q99) :: .obj g91 (.cells #[.slice so83 xs.length ca84, .slice si85 q87.length ci86] 25) :: .row 9 1 (.slice so83 xs.length ca84) xs.length (strC xs) :: .row 4 1 (.slice si85 q87.length ci86) q87.length (boolC q87) :: .obj g79 (.cells #[.slice so71 xs.length ca72, .slice si73 q75.length ci74] 25) :: .row 9 1 (.slice so71 xs.length ca72) xs.length (strC xs) :: .row 4 1 (.slice si73 q75.length ci74) q75.length (boolC q75) :: .obj g67 (.cells #[.slice so59 xs.length ca60, .slice si61 q63.length ci62] 25) :: .row 9 1 (.slice so59 xs.length ca60) xs.length (strC xs) :: .row 4 1 (.slice si61 q63.length ci62) q63.length (boolC q63) :: .obj g55 (.cells #[.slice so_ xs.length ca_, .slice so49 q51.length ca50] 25) :: .row 4 1 (.slice so49 q51.length ca50) q51.length (boolC q51) :: .obj g45 (.cells #[.slice so_ xs.length ca_, .slice so39 q41.length ca40] 25) :: .row 4 1 (.slice so39 q41.length ca40) q41.length (boolC q41) :: .obj g31 (.cells #[.slice so23 xs.length ca24, .slice si25 q27.length ci26] 25) :: .row 9 1 (.slice so23 xs.length ca24) xs.length (strC xs) :: .row 4 1 (.slice si25 q27.length ci26) q27.length (boolC q27) :: .row 9 1 (.slice so_ xs.length ca_) xs.length (strC xs) :: []) := (hM.both hM113 (noBld_cons (by simp) (noBld_cons (by simp) (noBld_cons (by simp) (noBld_cons (by simp) (noBld_cons (by simp) (noBld_cons (by simp) (noBld_cons (by simp) (noBld_cons (by simp) (noBld_cons (by simp) (noBld_cons (by simp) (noBld_cons (by simp) (noBld_cons (by simp) (noBld_cons (by simp) (noBld_cons (by simp) (noBld_cons (by simp) (noBld_cons (by simp) (noBld_cons (by simp) (noBld_cons (by simp) (noBld_cons (by simp) (noBld_cons (by simp) (noBld_quiet quietL_nil))))))))))))))))))))) (noBld_cons (by simp) (noBld_cons (by simp) (noBld_quiet quietL_nil))))
   refine ⟨_, rfl, ?_⟩
   intro a hA
   refine seq_do hA rfl rfl rfl (does_move rfl) ?_
   intro a hA
   refine seq_do (v := .agg #[.slice so107 xs.length ca108, .slice si109 q111.length ci110]) hA rfl rfl rfl (does_extract (vs := [.agg #[.slice so107 xs.length ca108, .slice si109 q111.length ci110], .int .i64 0]) rfl rfl) ?_
   intro a hA
   refine seq_do (v := .int .i64 0) hA rfl rfl rfl (does_extract (vs := [.agg #[.slice so107 xs.length ca108, .slice si109 q111.length ci110], .int .i64 0]) rfl rfl) ?_
   intro a hA
   refine s_new (vs := [.slice none 0 0, .slice none 0 0]) (t := 25) hA hM rfl rfl rfl (fun g => .pointer (some ⟨g, 0, none⟩)) (does_alloc (z := .agg #[.slice none 0 0, .slice none 0 0]) (by kernel_rfl) rfl) (by decide) ?_
   intro g115 w116 hM a hA
   refine s_store (us := [.slice so107 xs.length ca108, .slice si109 q111.length ci110]) (L' := (.obj g115 (.cells #[.slice so107 xs.length ca108, .slice si109 q111.length ci110] 25) :: .row 9 1 (.slice so107 xs.length ca108) xs.length (strC xs) :: .row 4 1 (.slice si109 q111.length ci110) q111.length (boolC q111) :: .obj g103 (.cells #[.slice so95 xs.length ca96, .slice si97 q99.length ci98] 25) :: .row 9 1 (.slice so95 xs.length ca96) xs.length (strC xs) :: .row 4 1 (.slice si97 q99.length ci98) q99.length (boolC q99) :: .obj g91 (.cells #[.slice so83 xs.length ca84, .slice si85 q87.length ci86] 25) :: .row 9 1 (.slice so83 xs.length ca84) xs.length (strC xs) :: .row 4 1 (.slice si85 q87.length ci86) q87.length (boolC q87) :: .obj g79 (.cells #[.slice so71 xs.length ca72, .slice si73 q75.length ci74] 25) :: .row 9 1 (.slice so71 xs.length ca72) xs.length (strC xs) :: .row 4 1 (.slice si73 q75.length ci74) q75.length (boolC q75) :: .obj g67 (.cells #[.slice so59 xs.length ca60, .slice si61 q63.length ci62] 25) :: .row 9 1 (.slice so59 xs.length ca60) xs.length (strC xs) :: .row 4 1 (.slice si61 q63.length ci62) q63.length (boolC q63) :: .obj g55 (.cells #[.slice so_ xs.length ca_, .slice so49 q51.length ca50] 25) :: .row 4 1 (.slice so49 q51.length ca50) q51.length (boolC q51) :: .obj g45 (.cells #[.slice so_ xs.length ca_, .slice so39 q41.length ca40] 25) :: .row 4 1 (.slice so39 q41.length ca40) q41.length (boolC q41) :: .obj g31 (.cells #[.slice so23 xs.length ca24, .slice si25 q27.length ci26] 25) :: .row 9 1 (.slice so23 xs.length ca24) xs.length (strC xs) :: .row 4 1 (.slice si25 q27.length ci26) q27.length (boolC q27) :: .row 9 1 (.slice so_ xs.length ca_) xs.length (strC xs) :: [])) hA hM rfl rfl (m_store rfl rfl rfl (by kernel_rfl) hM 0 rfl rfl rfl) 0 rfl rfl rfl ?_
   intro w117 hM
   refine seq_do hA rfl rfl rfl (does_assign rfl) ?_
   intro a hA
   refine seq_end ?_
   refine hK106 _ _ ?_
   refine wp_seq_k (fun K118 hK118 => ?_)
   refine wp_region_lit ?_
   refine seq_do hA rfl rfl rfl (m_loadS hM EnH_isS_25 rfl 17 rfl (cs := [.slice so_ xs.length ca_, .slice so39 q41.length ca40]) rfl rfl) ?_
   intro a hA
   refine seq_do hA rfl rfl rfl (m_loadS hM EnH_isS_25 rfl 6 rfl (cs := [.slice so83 xs.length ca84, .slice si85 q87.length ci86]) rfl rfl) ?_
   intro a hA
   refine seq_call hA rfl rfl rfl (enters_func rfl rfl (fun w => by kernel_rfl)) (union_okN (l := xs) (rc_own (hM.has 22 rfl)) (rc_own (hM.has 18 rfl)) (rc_own (hM.has 7 rfl)) (rc_own (hM.has 8 rfl)) hs (snd_of h64 hq42 hnd) (snd_of h64 (by rw [hq88]; simp) hnd) (decide_eq_true rfl)) ?_
   rintro _ w126 ⟨so119, ca120, si121, ci122, q123, hq124, rfl, hM125⟩
   replace hM : Mg w w126 (.row 9 1 (.slice so119 xs.length ca120) xs.length (strC xs) :: .row 4 1 (.slice si121 q123.length ci122) q123.length (boolC q123) :: .obj g115 (.cells #[.slice so107 xs.length ca108, .slice si109 q111.length ci110] 25) :: .row 9 1 (.slice so107 xs.length ca108) xs.length (strC xs) :: .row 4 1 (.slice si109 q111.length ci110) q111.length (boolC q111) :: .obj g103 (.cells #[.slice so95 xs.length ca96, .slice si97 q99.length ci98] 25) :: .row 9 1 (.slice so95 xs.length ca96) xs.length (strC xs) :: .row 4 1 (.slice si97 q99.length ci98) q99.length (boolC q99) :: .obj g91 (.cells #[.slice so83 xs.length ca84, .slice si85 q87.length ci86] 25) :: .row 9 1 (.slice so83 xs.length ca84) xs.length (strC xs) :: .row 4 1 (.slice si85 q87.length ci86) q87.length (boolC q87) :: .obj g79 (.cells #[.slice so71 xs.length ca72, .slice si73 q75.length ci74] 25) :: .row 9 1 (.slice so71 xs.length ca72) xs.length (strC xs) :: .row 4 1 (.slice si73 q75.length ci74) q75.length (boolC q75) :: .obj g67 (.cells #[.slice so59 xs.length ca60, .slice si61 q63.length ci62] 25) :: .row 9 1 (.slice so59 xs.length ca60) xs.length (strC xs) :: .row 4 1 (.slice si61 q63.length ci62) q63.length (boolC q63) :: .obj g55 (.cells #[.slice so_ xs.length ca_, .slice so49 q51.length ca50] 25) :: .row 4 1 (.slice so49 q51.length ca50) q51.length (boolC q51) :: .obj g45 (.cells #[.slice so_ xs.length ca_, .slice so39 q41.length ca40] 25) :: .row 4 1 (.slice so39 q41.length ca40) q41.length (boolC q41) :: .obj g31 (.cells #[.slice so23 xs.length ca24, .slice si25 q27.length ci26] 25) :: .row 9 1 (.slice so23 xs.length ca24) xs.length (strC xs) :: .row 4 1 (.slice si25 q27.length ci26) q27.length (boolC q27) :: .row 9 1 (.slice so_ xs.length ca_) xs.length (strC xs) :: []) := (hM.both hM125 (noBld_cons (by simp) (noBld_cons (by simp) (noBld_cons (by simp) (noBld_cons (by simp) (noBld_cons (by simp) (noBld_cons (by simp) (noBld_cons (by simp) (noBld_cons (by simp) (noBld_cons (by simp) (noBld_cons (by simp) (noBld_cons (by simp) (noBld_cons (by simp) (noBld_cons (by simp) (noBld_cons (by simp) (noBld_cons (by simp) (noBld_cons (by simp) (noBld_cons (by simp) (noBld_cons (by simp) (noBld_cons (by simp) (noBld_cons (by simp) (noBld_cons (by simp) (noBld_cons (by simp) (noBld_cons (by simp) (noBld_quiet quietL_nil)))))))))))))))))))))))) (noBld_cons (by simp) (noBld_cons (by simp) (noBld_quiet quietL_nil))))
   refine ⟨_, rfl, ?_⟩
   intro a hA
   refine seq_do hA rfl rfl rfl (does_move rfl) ?_
   intro a hA
   refine seq_do (v := .agg #[.slice so119 xs.length ca120, .slice si121 q123.length ci122]) hA rfl rfl rfl (does_extract (vs := [.agg #[.slice so119 xs.length ca120, .slice si121 q123.length ci122], .int .i64 0]) rfl rfl) ?_
   intro a hA
   refine seq_do (v := .int .i64 0) hA rfl rfl rfl (does_extract (vs := [.agg #[.slice so119 xs.length ca120, .slice si121 q123.length ci122], .int .i64 0]) rfl rfl) ?_
   intro a hA
   refine s_new (vs := [.slice none 0 0, .slice none 0 0]) (t := 25) hA hM rfl rfl rfl (fun g => .pointer (some ⟨g, 0, none⟩)) (does_alloc (z := .agg #[.slice none 0 0, .slice none 0 0]) (by kernel_rfl) rfl) (by decide) ?_
   intro g127 w128 hM a hA
   refine s_store (us := [.slice so119 xs.length ca120, .slice si121 q123.length ci122]) (L' := (.obj g127 (.cells #[.slice so119 xs.length ca120, .slice si121 q123.length ci122] 25) :: .row 9 1 (.slice so119 xs.length ca120) xs.length (strC xs) :: .row 4 1 (.slice si121 q123.length ci122) q123.length (boolC q123) :: .obj g115 (.cells #[.slice so107 xs.length ca108, .slice si109 q111.length ci110] 25) :: .row 9 1 (.slice so107 xs.length ca108) xs.length (strC xs) :: .row 4 1 (.slice si109 q111.length ci110) q111.length (boolC q111) :: .obj g103 (.cells #[.slice so95 xs.length ca96, .slice si97 q99.length ci98] 25) :: .row 9 1 (.slice so95 xs.length ca96) xs.length (strC xs) :: .row 4 1 (.slice si97 q99.length ci98) q99.length (boolC q99) :: .obj g91 (.cells #[.slice so83 xs.length ca84, .slice si85 q87.length ci86] 25) :: .row 9 1 (.slice so83 xs.length ca84) xs.length (strC xs) :: .row 4 1 (.slice si85 q87.length ci86) q87.length (boolC q87) :: .obj g79 (.cells #[.slice so71 xs.length ca72, .slice si73 q75.length ci74] 25) :: .row 9 1 (.slice so71 xs.length ca72) xs.length (strC xs) :: .row 4 1 (.slice si73 q75.length ci74) q75.length (boolC q75) :: .obj g67 (.cells #[.slice so59 xs.length ca60, .slice si61 q63.length ci62] 25) :: .row 9 1 (.slice so59 xs.length ca60) xs.length (strC xs) :: .row 4 1 (.slice si61 q63.length ci62) q63.length (boolC q63) :: .obj g55 (.cells #[.slice so_ xs.length ca_, .slice so49 q51.length ca50] 25) :: .row 4 1 (.slice so49 q51.length ca50) q51.length (boolC q51) :: .obj g45 (.cells #[.slice so_ xs.length ca_, .slice so39 q41.length ca40] 25) :: .row 4 1 (.slice so39 q41.length ca40) q41.length (boolC q41) :: .obj g31 (.cells #[.slice so23 xs.length ca24, .slice si25 q27.length ci26] 25) :: .row 9 1 (.slice so23 xs.length ca24) xs.length (strC xs) :: .row 4 1 (.slice si25 q27.length ci26) q27.length (boolC q27) :: .row 9 1 (.slice so_ xs.length ca_) xs.length (strC xs) :: [])) hA hM rfl rfl (m_store rfl rfl rfl (by kernel_rfl) hM 0 rfl rfl rfl) 0 rfl rfl rfl ?_
   intro w129 hM
   refine seq_do hA rfl rfl rfl (does_assign rfl) ?_
   intro a hA
   refine seq_end ?_
   refine hK118 _ _ ?_
   refine wp_seq_k (fun K130 hK130 => ?_)
   refine wp_region_lit ?_
   refine seq_do hA rfl rfl rfl (m_loadS hM EnH_isS_25 rfl 20 rfl (cs := [.slice so_ xs.length ca_, .slice so39 q41.length ca40]) rfl rfl) ?_
   intro a hA
   refine seq_do hA rfl rfl rfl (m_loadS hM EnH_isS_25 rfl 9 rfl (cs := [.slice so83 xs.length ca84, .slice si85 q87.length ci86]) rfl rfl) ?_
   intro a hA
   refine seq_call hA rfl rfl rfl (enters_func rfl rfl (fun w => by kernel_rfl)) (meet_okN (l := xs) (rc_own (hM.has 25 rfl)) (rc_own (hM.has 21 rfl)) (rc_own (hM.has 10 rfl)) (rc_own (hM.has 11 rfl)) hs (snd_of h64 hq42 hnd) (snd_of h64 (by rw [hq88]; simp) hnd) (decide_eq_true rfl)) ?_
   rintro _ w138 ⟨so131, ca132, si133, ci134, q135, hq136, rfl, hM137⟩
   replace hM : Mg w w138 (.row 9 1 (.slice so131 xs.length ca132) xs.length (strC xs) :: .row 4 1 (.slice si133 q135.length ci134) q135.length (boolC q135) :: .obj g127 (.cells #[.slice so119 xs.length ca120, .slice si121 q123.length ci122] 25) :: .row 9 1 (.slice so119 xs.length ca120) xs.length (strC xs) :: .row 4 1 (.slice si121 q123.length ci122) q123.length (boolC q123) :: .obj g115 (.cells #[.slice so107 xs.length ca108, .slice si109 q111.length ci110] 25) :: .row 9 1 (.slice so107 xs.length ca108) xs.length (strC xs) :: .row 4 1 (.slice si109 q111.length ci110) q111.length (boolC q111) :: .obj g103 (.cells #[.slice so95 xs.length ca96, .slice si97 q99.length ci98] 25) :: .row 9 1 (.slice so95 xs.length ca96) xs.length (strC xs) :: .row 4 1 (.slice si97 q99.length ci98) q99.length (boolC q99) :: .obj g91 (.cells #[.slice so83 xs.length ca84, .slice si85 q87.length ci86] 25) :: .row 9 1 (.slice so83 xs.length ca84) xs.length (strC xs) :: .row 4 1 (.slice si85 q87.length ci86) q87.length (boolC q87) :: .obj g79 (.cells #[.slice so71 xs.length ca72, .slice si73 q75.length ci74] 25) :: .row 9 1 (.slice so71 xs.length ca72) xs.length (strC xs) :: .row 4 1 (.slice si73 q75.length ci74) q75.length (boolC q75) :: .obj g67 (.cells #[.slice so59 xs.length ca60, .slice si61 q63.length ci62] 25) :: .row 9 1 (.slice so59 xs.length ca60) xs.length (strC xs) :: .row 4 1 (.slice si61 q63.length ci62) q63.length (boolC q63) :: .obj g55 (.cells #[.slice so_ xs.length ca_, .slice so49 q51.length ca50] 25) :: .row 4 1 (.slice so49 q51.length ca50) q51.length (boolC q51) :: .obj g45 (.cells #[.slice so_ xs.length ca_, .slice so39 q41.length ca40] 25) :: .row 4 1 (.slice so39 q41.length ca40) q41.length (boolC q41) :: .obj g31 (.cells #[.slice so23 xs.length ca24, .slice si25 q27.length ci26] 25) :: .row 9 1 (.slice so23 xs.length ca24) xs.length (strC xs) :: .row 4 1 (.slice si25 q27.length ci26) q27.length (boolC q27) :: .row 9 1 (.slice so_ xs.length ca_) xs.length (strC xs) :: []) := (hM.both hM137 (noBld_cons (by simp) (noBld_cons (by simp) (noBld_cons (by simp) (noBld_cons (by simp) (noBld_cons (by simp) (noBld_cons (by simp) (noBld_cons (by simp) (noBld_cons (by simp) (noBld_cons (by simp) (noBld_cons (by simp) (noBld_cons (by simp) (noBld_cons (by simp) (noBld_cons (by simp) (noBld_cons (by simp) (noBld_cons (by simp) (noBld_cons (by simp) (noBld_cons (by simp) (noBld_cons (by simp) (noBld_cons (by simp) (noBld_cons (by simp) (noBld_cons (by simp) (noBld_cons (by simp) (noBld_cons (by simp) (noBld_cons (by simp) (noBld_cons (by simp) (noBld_cons (by simp) (noBld_quiet quietL_nil))))))))))))))))))))))))))) (noBld_cons (by simp) (noBld_cons (by simp) (noBld_quiet quietL_nil))))
   refine ⟨_, rfl, ?_⟩
   intro a hA
   refine seq_do hA rfl rfl rfl (does_move rfl) ?_
   intro a hA
   refine seq_do (v := .agg #[.slice so131 xs.length ca132, .slice si133 q135.length ci134]) hA rfl rfl rfl (does_extract (vs := [.agg #[.slice so131 xs.length ca132, .slice si133 q135.length ci134], .int .i64 0]) rfl rfl) ?_
   intro a hA
   refine seq_do (v := .int .i64 0) hA rfl rfl rfl (does_extract (vs := [.agg #[.slice so131 xs.length ca132, .slice si133 q135.length ci134], .int .i64 0]) rfl rfl) ?_
   intro a hA
   refine s_new (vs := [.slice none 0 0, .slice none 0 0]) (t := 25) hA hM rfl rfl rfl (fun g => .pointer (some ⟨g, 0, none⟩)) (does_alloc (z := .agg #[.slice none 0 0, .slice none 0 0]) (by kernel_rfl) rfl) (by decide) ?_
   intro g139 w140 hM a hA
   refine s_store (us := [.slice so131 xs.length ca132, .slice si133 q135.length ci134]) (L' := (.obj g139 (.cells #[.slice so131 xs.length ca132, .slice si133 q135.length ci134] 25) :: .row 9 1 (.slice so131 xs.length ca132) xs.length (strC xs) :: .row 4 1 (.slice si133 q135.length ci134) q135.length (boolC q135) :: .obj g127 (.cells #[.slice so119 xs.length ca120, .slice si121 q123.length ci122] 25) :: .row 9 1 (.slice so119 xs.length ca120) xs.length (strC xs) :: .row 4 1 (.slice si121 q123.length ci122) q123.length (boolC q123) :: .obj g115 (.cells #[.slice so107 xs.length ca108, .slice si109 q111.length ci110] 25) :: .row 9 1 (.slice so107 xs.length ca108) xs.length (strC xs) :: .row 4 1 (.slice si109 q111.length ci110) q111.length (boolC q111) :: .obj g103 (.cells #[.slice so95 xs.length ca96, .slice si97 q99.length ci98] 25) :: .row 9 1 (.slice so95 xs.length ca96) xs.length (strC xs) :: .row 4 1 (.slice si97 q99.length ci98) q99.length (boolC q99) :: .obj g91 (.cells #[.slice so83 xs.length ca84, .slice si85 q87.length ci86] 25) :: .row 9 1 (.slice so83 xs.length ca84) xs.length (strC xs) :: .row 4 1 (.slice si85 q87.length ci86) q87.length (boolC q87) :: .obj g79 (.cells #[.slice so71 xs.length ca72, .slice si73 q75.length ci74] 25) :: .row 9 1 (.slice so71 xs.length ca72) xs.length (strC xs) :: .row 4 1 (.slice si73 q75.length ci74) q75.length (boolC q75) :: .obj g67 (.cells #[.slice so59 xs.length ca60, .slice si61 q63.length ci62] 25) :: .row 9 1 (.slice so59 xs.length ca60) xs.length (strC xs) :: .row 4 1 (.slice si61 q63.length ci62) q63.length (boolC q63) :: .obj g55 (.cells #[.slice so_ xs.length ca_, .slice so49 q51.length ca50] 25) :: .row 4 1 (.slice so49 q51.length ca50) q51.length (boolC q51) :: .obj g45 (.cells #[.slice so_ xs.length ca_, .slice so39 q41.length ca40] 25) :: .row 4 1 (.slice so39 q41.length ca40) q41.length (boolC q41) :: .obj g31 (.cells #[.slice so23 xs.length ca24, .slice si25 q27.length ci26] 25) :: .row 9 1 (.slice so23 xs.length ca24) xs.length (strC xs) :: .row 4 1 (.slice si25 q27.length ci26) q27.length (boolC q27) :: .row 9 1 (.slice so_ xs.length ca_) xs.length (strC xs) :: [])) hA hM rfl rfl (m_store rfl rfl rfl (by kernel_rfl) hM 0 rfl rfl rfl) 0 rfl rfl rfl ?_
   intro w141 hM
   refine seq_do hA rfl rfl rfl (does_assign rfl) ?_
   intro a hA
   refine seq_end ?_
   refine hK130 _ _ ?_
   refine wp_seq_k (fun K142 hK142 => ?_)
   refine wp_region_lit ?_
   refine seq_do hA rfl rfl rfl (m_loadS hM EnH_isS_25 rfl 23 rfl (cs := [.slice so_ xs.length ca_, .slice so39 q41.length ca40]) rfl rfl) ?_
   intro a hA
   refine seq_do hA rfl rfl rfl (m_loadS hM EnH_isS_25 rfl 21 rfl (cs := [.slice so_ xs.length ca_, .slice so49 q51.length ca50]) rfl rfl) ?_
   intro a hA
   refine seq_call hA rfl rfl rfl (enters_func rfl rfl (fun w => by kernel_rfl)) (minus_okN (l := xs) (rc_own (hM.has 28 rfl)) (rc_own (hM.has 24 rfl)) (rc_own (hM.has 28 rfl)) (rc_own (hM.has 22 rfl)) hs (snd_of h64 hq42 hnd) (snd_of h64 hq52 hnd) (decide_eq_true rfl)) ?_
   rintro _ w150 ⟨so143, ca144, si145, ci146, q147, hq148, rfl, hM149⟩
   replace hM : Mg w w150 (.row 9 1 (.slice so143 xs.length ca144) xs.length (strC xs) :: .row 4 1 (.slice si145 q147.length ci146) q147.length (boolC q147) :: .obj g139 (.cells #[.slice so131 xs.length ca132, .slice si133 q135.length ci134] 25) :: .row 9 1 (.slice so131 xs.length ca132) xs.length (strC xs) :: .row 4 1 (.slice si133 q135.length ci134) q135.length (boolC q135) :: .obj g127 (.cells #[.slice so119 xs.length ca120, .slice si121 q123.length ci122] 25) :: .row 9 1 (.slice so119 xs.length ca120) xs.length (strC xs) :: .row 4 1 (.slice si121 q123.length ci122) q123.length (boolC q123) :: .obj g115 (.cells #[.slice so107 xs.length ca108, .slice si109 q111.length ci110] 25) :: .row 9 1 (.slice so107 xs.length ca108) xs.length (strC xs) :: .row 4 1 (.slice si109 q111.length ci110) q111.length (boolC q111) :: .obj g103 (.cells #[.slice so95 xs.length ca96, .slice si97 q99.length ci98] 25) :: .row 9 1 (.slice so95 xs.length ca96) xs.length (strC xs) :: .row 4 1 (.slice si97 q99.length ci98) q99.length (boolC q99) :: .obj g91 (.cells #[.slice so83 xs.length ca84, .slice si85 q87.length ci86] 25) :: .row 9 1 (.slice so83 xs.length ca84) xs.length (strC xs) :: .row 4 1 (.slice si85 q87.length ci86) q87.length (boolC q87) :: .obj g79 (.cells #[.slice so71 xs.length ca72, .slice si73 q75.length ci74] 25) :: .row 9 1 (.slice so71 xs.length ca72) xs.length (strC xs) :: .row 4 1 (.slice si73 q75.length ci74) q75.length (boolC q75) :: .obj g67 (.cells #[.slice so59 xs.length ca60, .slice si61 q63.length ci62] 25) :: .row 9 1 (.slice so59 xs.length ca60) xs.length (strC xs) :: .row 4 1 (.slice si61 q63.length ci62) q63.length (boolC q63) :: .obj g55 (.cells #[.slice so_ xs.length ca_, .slice so49 q51.length ca50] 25) :: .row 4 1 (.slice so49 q51.length ca50) q51.length (boolC q51) :: .obj g45 (.cells #[.slice so_ xs.length ca_, .slice so39 q41.length ca40] 25) :: .row 4 1 (.slice so39 q41.length ca40) q41.length (boolC q41) :: .obj g31 (.cells #[.slice so23 xs.length ca24, .slice si25 q27.length ci26] 25) :: .row 9 1 (.slice so23 xs.length ca24) xs.length (strC xs) :: .row 4 1 (.slice si25 q27.length ci26) q27.length (boolC q27) :: .row 9 1 (.slice so_ xs.length ca_) xs.length (strC xs) :: []) := (hM.both hM149 (noBld_cons (by simp) (noBld_cons (by simp) (noBld_cons (by simp) (noBld_cons (by simp) (noBld_cons (by simp) (noBld_cons (by simp) (noBld_cons (by simp) (noBld_cons (by simp) (noBld_cons (by simp) (noBld_cons (by simp) (noBld_cons (by simp) (noBld_cons (by simp) (noBld_cons (by simp) (noBld_cons (by simp) (noBld_cons (by simp) (noBld_cons (by simp) (noBld_cons (by simp) (noBld_cons (by simp) (noBld_cons (by simp) (noBld_cons (by simp) (noBld_cons (by simp) (noBld_cons (by simp) (noBld_cons (by simp) (noBld_cons (by simp) (noBld_cons (by simp) (noBld_cons (by simp) (noBld_cons (by simp) (noBld_cons (by simp) (noBld_cons (by simp) (noBld_quiet quietL_nil)))))))))))))))))))))))))))))) (noBld_cons (by simp) (noBld_cons (by simp) (noBld_quiet quietL_nil))))
   refine ⟨_, rfl, ?_⟩
   intro a hA
   refine seq_do hA rfl rfl rfl (does_move rfl) ?_
   intro a hA
   refine seq_do (v := .agg #[.slice so143 xs.length ca144, .slice si145 q147.length ci146]) hA rfl rfl rfl (does_extract (vs := [.agg #[.slice so143 xs.length ca144, .slice si145 q147.length ci146], .int .i64 0]) rfl rfl) ?_
   intro a hA
   refine seq_do (v := .int .i64 0) hA rfl rfl rfl (does_extract (vs := [.agg #[.slice so143 xs.length ca144, .slice si145 q147.length ci146], .int .i64 0]) rfl rfl) ?_
   intro a hA
   refine s_new (vs := [.slice none 0 0, .slice none 0 0]) (t := 25) hA hM rfl rfl rfl (fun g => .pointer (some ⟨g, 0, none⟩)) (does_alloc (z := .agg #[.slice none 0 0, .slice none 0 0]) (by kernel_rfl) rfl) (by decide) ?_
   intro g151 w152 hM a hA
   refine s_store (us := [.slice so143 xs.length ca144, .slice si145 q147.length ci146]) (L' := (.obj g151 (.cells #[.slice so143 xs.length ca144, .slice si145 q147.length ci146] 25) :: .row 9 1 (.slice so143 xs.length ca144) xs.length (strC xs) :: .row 4 1 (.slice si145 q147.length ci146) q147.length (boolC q147) :: .obj g139 (.cells #[.slice so131 xs.length ca132, .slice si133 q135.length ci134] 25) :: .row 9 1 (.slice so131 xs.length ca132) xs.length (strC xs) :: .row 4 1 (.slice si133 q135.length ci134) q135.length (boolC q135) :: .obj g127 (.cells #[.slice so119 xs.length ca120, .slice si121 q123.length ci122] 25) :: .row 9 1 (.slice so119 xs.length ca120) xs.length (strC xs) :: .row 4 1 (.slice si121 q123.length ci122) q123.length (boolC q123) :: .obj g115 (.cells #[.slice so107 xs.length ca108, .slice si109 q111.length ci110] 25) :: .row 9 1 (.slice so107 xs.length ca108) xs.length (strC xs) :: .row 4 1 (.slice si109 q111.length ci110) q111.length (boolC q111) :: .obj g103 (.cells #[.slice so95 xs.length ca96, .slice si97 q99.length ci98] 25) :: .row 9 1 (.slice so95 xs.length ca96) xs.length (strC xs) :: .row 4 1 (.slice si97 q99.length ci98) q99.length (boolC q99) :: .obj g91 (.cells #[.slice so83 xs.length ca84, .slice si85 q87.length ci86] 25) :: .row 9 1 (.slice so83 xs.length ca84) xs.length (strC xs) :: .row 4 1 (.slice si85 q87.length ci86) q87.length (boolC q87) :: .obj g79 (.cells #[.slice so71 xs.length ca72, .slice si73 q75.length ci74] 25) :: .row 9 1 (.slice so71 xs.length ca72) xs.length (strC xs) :: .row 4 1 (.slice si73 q75.length ci74) q75.length (boolC q75) :: .obj g67 (.cells #[.slice so59 xs.length ca60, .slice si61 q63.length ci62] 25) :: .row 9 1 (.slice so59 xs.length ca60) xs.length (strC xs) :: .row 4 1 (.slice si61 q63.length ci62) q63.length (boolC q63) :: .obj g55 (.cells #[.slice so_ xs.length ca_, .slice so49 q51.length ca50] 25) :: .row 4 1 (.slice so49 q51.length ca50) q51.length (boolC q51) :: .obj g45 (.cells #[.slice so_ xs.length ca_, .slice so39 q41.length ca40] 25) :: .row 4 1 (.slice so39 q41.length ca40) q41.length (boolC q41) :: .obj g31 (.cells #[.slice so23 xs.length ca24, .slice si25 q27.length ci26] 25) :: .row 9 1 (.slice so23 xs.length ca24) xs.length (strC xs) :: .row 4 1 (.slice si25 q27.length ci26) q27.length (boolC q27) :: .row 9 1 (.slice so_ xs.length ca_) xs.length (strC xs) :: [])) hA hM rfl rfl (m_store rfl rfl rfl (by kernel_rfl) hM 0 rfl rfl rfl) 0 rfl rfl rfl ?_
   intro w153 hM
   refine seq_do hA rfl rfl rfl (does_assign rfl) ?_
   intro a hA
   refine seq_end ?_
   refine hK142 _ _ ?_
   refine wp_seq_k (fun K154 hK154 => ?_)
   refine wp_region_lit ?_
   refine seq_do hA rfl rfl rfl (m_loadS hM EnH_isS_25 rfl 26 rfl (cs := [.slice so_ xs.length ca_, .slice so39 q41.length ca40]) rfl rfl) ?_
   intro a hA
   refine seq_do hA rfl rfl rfl (m_loadS hM EnH_isS_25 rfl 24 rfl (cs := [.slice so_ xs.length ca_, .slice so49 q51.length ca50]) rfl rfl) ?_
   intro a hA
   refine seq_call hA rfl rfl rfl (enters_func rfl rfl (fun w => by kernel_rfl)) (sub_ok (l := xs) (l2 := xs) (rc_own (hM.has 31 rfl)) (rc_own (hM.has 27 rfl)) (rc_own (hM.has 31 rfl)) (rc_own (hM.has 25 rfl)) (snd_of h64 hq42 hnd) (snd_of h64 hq52 hnd)) ?_
   rintro _ w156 ⟨rfl, hb155⟩
   replace hM := hM.call hb155
   refine ⟨_, rfl, ?_⟩
   intro a hA
   refine seq_do hA rfl rfl rfl (does_move rfl) ?_
   intro a hA
   refine seq_do (v := .bool ((!(memS xs q41).any fun s => !hasS xs q51 s))) hA rfl rfl rfl (does_extract (vs := [.bool ((!(memS xs q41).any fun s => !hasS xs q51 s)), .int .i64 0]) rfl rfl) ?_
   intro a hA
   refine seq_do (v := .int .i64 0) hA rfl rfl rfl (does_extract (vs := [.bool ((!(memS xs q41).any fun s => !hasS xs q51 s)), .int .i64 0]) rfl rfl) ?_
   intro a hA
   refine seq_do hA rfl rfl rfl (does_assign rfl) ?_
   intro a hA
   refine seq_do hA rfl rfl rfl (does_assign rfl) ?_
   intro a hA
   refine seq_end ?_
   refine hK154 _ _ ?_
   refine wp_seq_k (fun K157 hK157 => ?_)
   refine wp_region_lit ?_
   refine seq_do hA rfl rfl rfl (m_loadS hM EnH_isS_25 rfl 3 rfl (cs := [.slice so131 xs.length ca132, .slice si133 q135.length ci134]) rfl rfl) ?_
   intro a hA
   refine seq_call hA rfl rfl rfl (enters_func rfl rfl (fun w => by kernel_rfl)) (list_ok (l := xs) (rc_own (hM.has 4 rfl)) (rc_own (hM.has 5 rfl)) hs (snd_of h64 (by rw [hq136]; simp) hnd)) ?_
   rintro _ w161 ⟨so158, ca159, rfl, hM160⟩
   replace hM : Mg w w161 (.row 9 1 (.slice so158 ((memS xs q135).length) ca159) ((memS xs q135).length) (strC (memS xs q135)) :: .obj g151 (.cells #[.slice so143 xs.length ca144, .slice si145 q147.length ci146] 25) :: .row 9 1 (.slice so143 xs.length ca144) xs.length (strC xs) :: .row 4 1 (.slice si145 q147.length ci146) q147.length (boolC q147) :: .obj g139 (.cells #[.slice so131 xs.length ca132, .slice si133 q135.length ci134] 25) :: .row 9 1 (.slice so131 xs.length ca132) xs.length (strC xs) :: .row 4 1 (.slice si133 q135.length ci134) q135.length (boolC q135) :: .obj g127 (.cells #[.slice so119 xs.length ca120, .slice si121 q123.length ci122] 25) :: .row 9 1 (.slice so119 xs.length ca120) xs.length (strC xs) :: .row 4 1 (.slice si121 q123.length ci122) q123.length (boolC q123) :: .obj g115 (.cells #[.slice so107 xs.length ca108, .slice si109 q111.length ci110] 25) :: .row 9 1 (.slice so107 xs.length ca108) xs.length (strC xs) :: .row 4 1 (.slice si109 q111.length ci110) q111.length (boolC q111) :: .obj g103 (.cells #[.slice so95 xs.length ca96, .slice si97 q99.length ci98] 25) :: .row 9 1 (.slice so95 xs.length ca96) xs.length (strC xs) :: .row 4 1 (.slice si97 q99.length ci98) q99.length (boolC q99) :: .obj g91 (.cells #[.slice so83 xs.length ca84, .slice si85 q87.length ci86] 25) :: .row 9 1 (.slice so83 xs.length ca84) xs.length (strC xs) :: .row 4 1 (.slice si85 q87.length ci86) q87.length (boolC q87) :: .obj g79 (.cells #[.slice so71 xs.length ca72, .slice si73 q75.length ci74] 25) :: .row 9 1 (.slice so71 xs.length ca72) xs.length (strC xs) :: .row 4 1 (.slice si73 q75.length ci74) q75.length (boolC q75) :: .obj g67 (.cells #[.slice so59 xs.length ca60, .slice si61 q63.length ci62] 25) :: .row 9 1 (.slice so59 xs.length ca60) xs.length (strC xs) :: .row 4 1 (.slice si61 q63.length ci62) q63.length (boolC q63) :: .obj g55 (.cells #[.slice so_ xs.length ca_, .slice so49 q51.length ca50] 25) :: .row 4 1 (.slice so49 q51.length ca50) q51.length (boolC q51) :: .obj g45 (.cells #[.slice so_ xs.length ca_, .slice so39 q41.length ca40] 25) :: .row 4 1 (.slice so39 q41.length ca40) q41.length (boolC q41) :: .obj g31 (.cells #[.slice so23 xs.length ca24, .slice si25 q27.length ci26] 25) :: .row 9 1 (.slice so23 xs.length ca24) xs.length (strC xs) :: .row 4 1 (.slice si25 q27.length ci26) q27.length (boolC q27) :: .row 9 1 (.slice so_ xs.length ca_) xs.length (strC xs) :: []) := (hM.both hM160 (noBld_cons (by simp) (noBld_cons (by simp) (noBld_cons (by simp) (noBld_cons (by simp) (noBld_cons (by simp) (noBld_cons (by simp) (noBld_cons (by simp) (noBld_cons (by simp) (noBld_cons (by simp) (noBld_cons (by simp) (noBld_cons (by simp) (noBld_cons (by simp) (noBld_cons (by simp) (noBld_cons (by simp) (noBld_cons (by simp) (noBld_cons (by simp) (noBld_cons (by simp) (noBld_cons (by simp) (noBld_cons (by simp) (noBld_cons (by simp) (noBld_cons (by simp) (noBld_cons (by simp) (noBld_cons (by simp) (noBld_cons (by simp) (noBld_cons (by simp) (noBld_cons (by simp) (noBld_cons (by simp) (noBld_cons (by simp) (noBld_cons (by simp) (noBld_cons (by simp) (noBld_cons (by simp) (noBld_cons (by simp) (noBld_quiet quietL_nil))))))))))))))))))))))))))))))))) (noBld_cons (by simp) (noBld_quiet quietL_nil)))
   refine ⟨_, rfl, ?_⟩
   intro a hA
   refine seq_do hA rfl rfl rfl (does_move rfl) ?_
   intro a hA
   refine seq_do (v := .slice so158 ((memS xs q135).length) ca159) hA rfl rfl rfl (does_extract (vs := [.slice so158 ((memS xs q135).length) ca159, .int .i64 0]) rfl rfl) ?_
   intro a hA
   refine seq_do (v := .int .i64 0) hA rfl rfl rfl (does_extract (vs := [.slice so158 ((memS xs q135).length) ca159, .int .i64 0]) rfl rfl) ?_
   intro a hA
   refine seq_do hA rfl rfl rfl (does_assign rfl) ?_
   intro a hA
   refine seq_do hA rfl rfl rfl (does_assign rfl) ?_
   intro a hA
   refine seq_end ?_
   refine hK157 _ _ ?_
   refine wp_seq_k (fun K162 hK162 => ?_)
   refine wp_region_lit ?_
   refine seq_do hA rfl rfl rfl (m_loadS hM EnH_isS_25 rfl 1 rfl (cs := [.slice so143 xs.length ca144, .slice si145 q147.length ci146]) rfl rfl) ?_
   intro a hA
   refine seq_call hA rfl rfl rfl (enters_func rfl rfl (fun w => by kernel_rfl)) (list_ok (l := xs) (rc_own (hM.has 2 rfl)) (rc_own (hM.has 3 rfl)) hs (snd_of h64 (by rw [hq148]; simp) hnd)) ?_
   rintro _ w166 ⟨so163, ca164, rfl, hM165⟩
   replace hM : Mg w w166 (.row 9 1 (.slice so163 ((memS xs q147).length) ca164) ((memS xs q147).length) (strC (memS xs q147)) :: .row 9 1 (.slice so158 ((memS xs q135).length) ca159) ((memS xs q135).length) (strC (memS xs q135)) :: .obj g151 (.cells #[.slice so143 xs.length ca144, .slice si145 q147.length ci146] 25) :: .row 9 1 (.slice so143 xs.length ca144) xs.length (strC xs) :: .row 4 1 (.slice si145 q147.length ci146) q147.length (boolC q147) :: .obj g139 (.cells #[.slice so131 xs.length ca132, .slice si133 q135.length ci134] 25) :: .row 9 1 (.slice so131 xs.length ca132) xs.length (strC xs) :: .row 4 1 (.slice si133 q135.length ci134) q135.length (boolC q135) :: .obj g127 (.cells #[.slice so119 xs.length ca120, .slice si121 q123.length ci122] 25) :: .row 9 1 (.slice so119 xs.length ca120) xs.length (strC xs) :: .row 4 1 (.slice si121 q123.length ci122) q123.length (boolC q123) :: .obj g115 (.cells #[.slice so107 xs.length ca108, .slice si109 q111.length ci110] 25) :: .row 9 1 (.slice so107 xs.length ca108) xs.length (strC xs) :: .row 4 1 (.slice si109 q111.length ci110) q111.length (boolC q111) :: .obj g103 (.cells #[.slice so95 xs.length ca96, .slice si97 q99.length ci98] 25) :: .row 9 1 (.slice so95 xs.length ca96) xs.length (strC xs) :: .row 4 1 (.slice si97 q99.length ci98) q99.length (boolC q99) :: .obj g91 (.cells #[.slice so83 xs.length ca84, .slice si85 q87.length ci86] 25) :: .row 9 1 (.slice so83 xs.length ca84) xs.length (strC xs) :: .row 4 1 (.slice si85 q87.length ci86) q87.length (boolC q87) :: .obj g79 (.cells #[.slice so71 xs.length ca72, .slice si73 q75.length ci74] 25) :: .row 9 1 (.slice so71 xs.length ca72) xs.length (strC xs) :: .row 4 1 (.slice si73 q75.length ci74) q75.length (boolC q75) :: .obj g67 (.cells #[.slice so59 xs.length ca60, .slice si61 q63.length ci62] 25) :: .row 9 1 (.slice so59 xs.length ca60) xs.length (strC xs) :: .row 4 1 (.slice si61 q63.length ci62) q63.length (boolC q63) :: .obj g55 (.cells #[.slice so_ xs.length ca_, .slice so49 q51.length ca50] 25) :: .row 4 1 (.slice so49 q51.length ca50) q51.length (boolC q51) :: .obj g45 (.cells #[.slice so_ xs.length ca_, .slice so39 q41.length ca40] 25) :: .row 4 1 (.slice so39 q41.length ca40) q41.length (boolC q41) :: .obj g31 (.cells #[.slice so23 xs.length ca24, .slice si25 q27.length ci26] 25) :: .row 9 1 (.slice so23 xs.length ca24) xs.length (strC xs) :: .row 4 1 (.slice si25 q27.length ci26) q27.length (boolC q27) :: .row 9 1 (.slice so_ xs.length ca_) xs.length (strC xs) :: []) := (hM.both hM165 (noBld_cons (by simp) (noBld_cons (by simp) (noBld_cons (by simp) (noBld_cons (by simp) (noBld_cons (by simp) (noBld_cons (by simp) (noBld_cons (by simp) (noBld_cons (by simp) (noBld_cons (by simp) (noBld_cons (by simp) (noBld_cons (by simp) (noBld_cons (by simp) (noBld_cons (by simp) (noBld_cons (by simp) (noBld_cons (by simp) (noBld_cons (by simp) (noBld_cons (by simp) (noBld_cons (by simp) (noBld_cons (by simp) (noBld_cons (by simp) (noBld_cons (by simp) (noBld_cons (by simp) (noBld_cons (by simp) (noBld_cons (by simp) (noBld_cons (by simp) (noBld_cons (by simp) (noBld_cons (by simp) (noBld_cons (by simp) (noBld_cons (by simp) (noBld_cons (by simp) (noBld_cons (by simp) (noBld_cons (by simp) (noBld_cons (by simp) (noBld_quiet quietL_nil)))))))))))))))))))))))))))))))))) (noBld_cons (by simp) (noBld_quiet quietL_nil)))
   refine ⟨_, rfl, ?_⟩
   intro a hA
   refine seq_do hA rfl rfl rfl (does_move rfl) ?_
   intro a hA
   refine seq_do (v := .slice so163 ((memS xs q147).length) ca164) hA rfl rfl rfl (does_extract (vs := [.slice so163 ((memS xs q147).length) ca164, .int .i64 0]) rfl rfl) ?_
   intro a hA
   refine seq_do (v := .int .i64 0) hA rfl rfl rfl (does_extract (vs := [.slice so163 ((memS xs q147).length) ca164, .int .i64 0]) rfl rfl) ?_
   intro a hA
   refine seq_do hA rfl rfl rfl (does_assign rfl) ?_
   intro a hA
   refine seq_do hA rfl rfl rfl (does_assign rfl) ?_
   intro a hA
   refine seq_end ?_
   refine hK162 _ _ ?_
   refine wp_seq_k (fun K167 hK167 => ?_)
   refine wp_region_lit ?_
   refine seq_do hA rfl rfl rfl (does_move rfl) ?_
   intro a hA
   refine seq_do (v := .bool true) hA rfl rfl rfl (does_bin rfl rfl (fun w => by kernel_rfl)) ?_
   intro a hA
   refine seq_do hA rfl rfl rfl (does_move rfl) ?_
   intro a hA
   refine seq_do hA rfl rfl rfl (does_move rfl) ?_
   intro a hA
   refine seq_do (v := .bool true) hA rfl rfl rfl (does_bin rfl rfl (fun w => by kernel_rfl)) ?_
   intro a hA
   refine seq_do (v := .bool true) hA rfl rfl rfl (does_pick rfl rfl rfl rfl) ?_
   intro a hA
   refine seq_do hA rfl rfl rfl (does_move rfl) ?_
   intro a hA
   refine seq_do hA rfl rfl rfl (does_move rfl) ?_
   intro a hA
   refine seq_do (v := .bool true) hA rfl rfl rfl (does_bin rfl rfl (fun w => by kernel_rfl)) ?_
   intro a hA
   refine seq_do (v := .bool true) hA rfl rfl rfl (does_pick rfl rfl rfl rfl) ?_
   intro a hA
   refine seq_do hA rfl rfl rfl (does_move rfl) ?_
   intro a hA
   refine seq_do hA rfl rfl rfl (m_loadS hM EnH_isS_25 rfl 20 rfl (cs := [.slice so71 xs.length ca72, .slice si73 q75.length ci74]) rfl rfl) ?_
   intro a hA
   refine seq_do hA rfl rfl rfl (m_loadS hM EnH_isS_25 rfl 11 rfl (cs := [.slice so107 xs.length ca108, .slice si109 q111.length ci110]) rfl rfl) ?_
   intro a hA
   refine seq_call hA rfl rfl rfl (enters_func rfl rfl (fun w => by kernel_rfl)) (same_any (l := xs) (rc_own (hM.has 21 rfl)) (rc_own (hM.has 22 rfl)) (rc_own (hM.has 12 rfl)) (rc_own (hM.has 13 rfl)) h64 (by rw [hq76]; simp) (by rw [hq112]; simp) (laws_same hq64 hq76 hq88 hq100 hq112)) ?_
   rintro _ w169 ⟨rfl, hb168⟩
   replace hM := hM.call hb168
   refine ⟨_, rfl, ?_⟩
   intro a hA
   refine seq_do (v := .bool true) hA rfl rfl rfl (does_pick rfl rfl rfl rfl) ?_
   intro a hA
   refine seq_do hA rfl rfl rfl (does_move rfl) ?_
   intro a hA
   refine seq_do hA rfl rfl rfl (m_loadS hM EnH_isS_25 rfl 8 rfl (cs := [.slice so119 xs.length ca120, .slice si121 q123.length ci122]) rfl rfl) ?_
   intro a hA
   refine seq_do hA rfl rfl rfl (m_loadS hM EnH_isS_25 rfl 30 rfl (cs := [.slice so23 xs.length ca24, .slice si25 q27.length ci26]) rfl rfl) ?_
   intro a hA
   refine seq_call hA rfl rfl rfl (enters_func rfl rfl (fun w => by kernel_rfl)) (same_any (l := xs) (rc_own (hM.has 9 rfl)) (rc_own (hM.has 10 rfl)) (rc_own (hM.has 31 rfl)) (rc_own (hM.has 32 rfl)) h64 (by rw [hq124]; simp) (by rw [hq28]; simp) (laws_all hq88 hq124 hq28)) ?_
   rintro _ w171 ⟨rfl, hb170⟩
   replace hM := hM.call hb170
   refine ⟨_, rfl, ?_⟩
   intro a hA
   refine seq_do (v := .bool true) hA rfl rfl rfl (does_pick rfl rfl rfl rfl) ?_
   intro a hA
   refine seq_do hA rfl rfl rfl (does_move rfl) ?_
   intro a hA
   refine seq_do hA rfl rfl rfl (does_move rfl) ?_
   intro a hA
   refine seq_do (v := .int .i64 ((((memS xs q135).length : Nat) : Int))) hA rfl rfl rfl (does_len Try.underlying22 rfl) ?_
   intro a hA
   refine seq_do (v := .bool true) hA rfl rfl rfl (does_bin rfl rfl (fun w => (bin_eql w).trans (by rw [show (((((memS xs q135).length : Nat) : Int) == 0)) = true from (by rw [laws_none hq88 hq136]; rfl)]))) ?_
   intro a hA
   refine seq_do (v := .bool true) hA rfl rfl rfl (does_pick rfl rfl rfl rfl) ?_
   intro a hA
   refine seq_do hA rfl rfl rfl (does_move rfl) ?_
   intro a hA
   refine seq_do hA rfl rfl rfl (does_move rfl) ?_
   intro a hA
   refine seq_do hA rfl rfl rfl (does_move rfl) ?_
   intro a hA
   refine seq_do (v := .int .i64 ((((memS xs q147).length : Nat) : Int))) hA rfl rfl rfl (does_len Try.underlying22 rfl) ?_
   intro a hA
   refine seq_do (v := .bool (((((memS xs q147).length : Nat) : Int) == 0))) hA rfl rfl rfl (does_bin rfl rfl bin_eql) ?_
   intro a hA
   refine seq_do (v := .bool true) hA rfl rfl rfl (does_bin rfl rfl (fun w => ((bin_eqlB Try.underlying4) w).trans (by rw [show (((!(memS xs q41).any fun s => !hasS xs q51 s) == ((((memS xs q147).length : Nat) : Int) == 0))) = true from (laws_sub (snd_of h64 hq42 hnd) hq148)]))) ?_
   intro a hA
   refine seq_do (v := .bool true) hA rfl rfl rfl (does_pick rfl rfl rfl rfl) ?_
   intro a hA
   refine seq_do hA rfl rfl rfl (does_assign rfl) ?_
   intro a hA
   refine seq_end ?_
   refine hK167 _ _ ?_
   refine wp_ret ?_
   refine hret _ _ ?_
   refine ends (v := .bool true) hA rfl (.cons (res_tmp rfl) .nil) rfl ?_
   exact ⟨rfl, hM.bel⟩
theorem enumLaws_any {w : World} {z x y : Int} (h0 : 0 ≤ z) (h1 : z ≤ 255) : Calls Try.prog 5 #[.int .u8 z, .int .u64 x, .int .u64 y] w fun e w' => e = .returned (.bool true) ∧ Below w.heap.size w w' := by
  obtain ⟨n, rfl⟩ := Int.eq_ofNat_of_zero_le h0
  exact laws_n (by omega)
end Go.Proofs.Ytbdhfooeanbnlaa
