/- The walk of CharsJoins. -/
import Derived.Test.YtmoakjonlfilgaaJoinsMath
import Derived.Test.YtmoakjonlfilgaaFoldsWalk
import Derived.Deep.RegionWith
import Derived.Deep.DeepCutAuto
namespace Go.Proofs.Ytmoakjonlfilgaa
open Go.RowKit
set_option linter.unusedSimpArgs false
set_option linter.unusedVariables false

set_option maxHeartbeats 2000000 in
theorem joins_of (s t A B UA UB FA FB DA DB TA TB : ByteArray) (ls lt : List Int) (hs : s.size ≤ 1048576) (ht : t.size ≤ 1048576)
    (hls : ls = runes s.data.toList) (hlt : lt = runes t.data.toList) (hA : A = ⟨(encs ls).toArray⟩) (hB : B = ⟨(encs lt).toArray⟩)
    (zA : A.size ≤ 4294967296) (zB : B.size ≤ 4294967296) (zUA : UA.size ≤ 4294967296) (zUB : UB.size ≤ 4294967296) (zFA : FA.size ≤ 4294967296) (zFB : FB.size ≤ 4294967296)
    (zDA : DA.size ≤ 4294967296) (zDB : DB.size ≤ 4294967296) (zTA : TA.size ≤ 4294967296) (zTB : TB.size ≤ 4294967296)
    (c1 : TextCall 19 (A ++ B) (UA ++ UB)) (c2 : TextCall 19 A UA) (c3 : TextCall 19 B UB) (c4 : TextCall 23 (A ++ B) (FA ++ FB)) (c5 : TextCall 23 A FA) (c6 : TextCall 23 B FB)
    (c7 : TextCall 21 (A ++ ⟨#[32]⟩ ++ B) (DA ++ ⟨#[32]⟩ ++ DB)) (c8 : TextCall 21 A DA) (c9 : TextCall 21 B DB)
    (d7 : TextCall 25 (A ++ ⟨#[32]⟩ ++ B) (TA ++ ⟨#[32]⟩ ++ TB)) (d8 : TextCall 25 A TA) (d9 : TextCall 25 B TB) (w : World) :
    Calls Try.prog 7 #[.string s, .string t] w fun e w' => e = .returned (.bool true) ∧ Below w.heap.size w w' := by
  have r1 := runes_any s
  have r2 := runes_any t
  rw [← hls] at r1
  rw [← hlt] at r2
  have v1 : ∀ r ∈ ls, ValidR r := by rw [hls]; exact runes_valid _
  have v2 : ∀ r ∈ lt, ValidR r := by rw [hlt]; exact runes_valid _
  have V1 : Hid _ := v1
  have V2 : Hid _ := v2
  have R1 : Hid _ := r1
  have R2 : Hid _ := r2
  have HA : Hid _ := hA
  have HB : Hid _ := hB
  clear hls hlt v1 v2 r1 r2 hA hB
  go_enter Try.func7, Try.ntmps7
  go_upto_region 1 with fail
  go_cut [5, 6] (fun s5 s6 wx => s5 = .string A ∧ s6 = .string B ∧ Below w.heap.size w wx)
  case first =>
    go_region_with (first
      | (go_at_call_of 27 (Value.string s); refine (R1.out _ (by omega)).mono ?_; rintro e w1 ⟨x1, rfl, ne1, own1, b1⟩; have cv1 := convert_row own1 V1.out)
      | (go_at_call_of 27 (Value.string t); refine (R2.out _ (by omega)).mono ?_; rintro e w2 ⟨x2, rfl, ne2, own2, b2⟩; have own12 := owns_below own1 b2; have cv12 := convert_row own12 V1.out; have cv2 := convert_row own2 V2.out))
    all_goals (go_wp2_with fail; go_meet; exact ⟨congrArg Value.string HA.out.symm, congrArg Value.string HB.out.symm, (Below.refl w.heap.size w).drew.trans (b1.trans (b2.mono b1.size))⟩)
  case rest =>
    obtain ⟨rfl, rfl, B0⟩ := hcut
    clear HA HB R1 R2 V1 V2
    go_wp2_with fail
    refine (awake_any _).mono ?_
    rintro e w1 ⟨rfl, b1⟩
    have B1 := B0.trans (b1.mono B0.size)
    clear b1 B0
    go_wp2_with fail
    refine (c1 _).mono ?_
    rintro e w2 ⟨rfl, b2⟩
    have B2 := B1.trans (b2.mono B1.size)
    clear b2 B1
    go_wp2_with fail
    refine (c2 _).mono ?_
    rintro e w3 ⟨rfl, b3⟩
    have B3 := B2.trans (b3.mono B2.size)
    clear b3 B2
    go_wp2_with fail
    refine (c3 _).mono ?_
    rintro e w4 ⟨rfl, b4⟩
    have B4 := B3.trans (b4.mono B3.size)
    clear b4 B3
    go_wp2_with fail
    refine (c4 _).mono ?_
    rintro e w5 ⟨rfl, b5⟩
    have B5 := B4.trans (b5.mono B4.size)
    clear b5 B4
    go_wp2_with fail
    refine (c5 _).mono ?_
    rintro e w6 ⟨rfl, b6⟩
    have B6 := B5.trans (b6.mono B5.size)
    clear b6 B5
    go_wp2_with fail
    refine (c6 _).mono ?_
    rintro e w7 ⟨rfl, b7⟩
    have B7 := B6.trans (b7.mono B6.size)
    clear b7 B6
    go_wp2_with fail
    refine (c7 _).mono ?_
    rintro e w8 ⟨rfl, b8⟩
    have B8 := B7.trans (b8.mono B7.size)
    clear b8 B7
    go_wp2_with fail
    refine (c8 _).mono ?_
    rintro e w9 ⟨rfl, b9⟩
    have B9 := B8.trans (b9.mono B8.size)
    clear b9 B8
    go_wp2_with fail
    refine (c9 _).mono ?_
    rintro e w10 ⟨rfl, b10⟩
    have B10 := B9.trans (b10.mono B9.size)
    clear b10 B9
    go_wp2_with fail
    refine (d7 _).mono ?_
    rintro e w11 ⟨rfl, b11⟩
    have B11 := B10.trans (b11.mono B10.size)
    clear b11 B10
    go_wp2_with fail
    refine (d8 _).mono ?_
    rintro e w12 ⟨rfl, b12⟩
    have B12 := B11.trans (b12.mono B11.size)
    clear b12 B11
    go_wp2_with fail
    refine (d9 _).mono ?_
    rintro e w13 ⟨rfl, b13⟩
    have B13 := B12.trans (b13.mono B12.size)
    clear b13 B12
    go_wp2
    go_ret
    exact ⟨rfl, B13⟩

def bts (l : List UInt8) : ByteArray := ⟨l.toArray⟩
theorem bts_app (x y : List UInt8) : bts x ++ bts y = bts (x ++ y) := by
  apply ByteArray.ext
  rw [ByteArray.data_append]
  simp [bts]
theorem bts_list (l : List UInt8) : (bts l).data.toList = l := by simp [bts]
theorem bts_space (x y : List UInt8) : bts x ++ ⟨#[32]⟩ ++ bts y = bts (x ++ 32 :: y) := by
  have e : (⟨#[32]⟩ : ByteArray) = bts [32] := rfl
  rw [e, bts_app, bts_app]
  simp
theorem bts_size (l : List UInt8) : (bts l).size = l.length := bytes_len l

theorem joins_walk (s t : ByteArray) (hst : s.size + t.size ≤ 1048576) (w : World) :
    Calls Try.prog 7 #[.string s, .string t] w fun e w' => e = .returned (.bool true) ∧ Below w.heap.size w w' := by
  have hl1 : s.data.toList.length = s.size := by rw [Array.length_toList]; rfl
  have hl2 : t.data.toList.length = t.size := by rw [Array.length_toList]; rfl
  have va := runes_valid s.data.toList
  have vb := runes_valid t.data.toList
  have n1 := runes_len s.data.toList
  have n2 := runes_len t.data.toList
  generalize ha : runes s.data.toList = a at *
  generalize hb : runes t.data.toList = b at *
  have e1 := encs_len a
  have e2 := encs_len b
  have u1 := upcase_len (encs a)
  have u2 := upcase_len (encs b)
  have f1 := fold_len (encs a)
  have f2 := fold_len (encs b)
  have g1 := downcase_len (encs a)
  have g2 := downcase_len (encs b)
  have t1 := titlecase_len (encs a)
  have t2 := titlecase_len (encs b)
  have k1 : ∀ l : List UInt8, l.length ≤ 134217728 → TextCall 19 (bts l) (bts (upcase l)) := fun l h w => by
    have := upcase_any (bts l) w (by rw [bts_size]; omega)
    rwa [bts_list] at this
  have k2 : ∀ l : List UInt8, l.length ≤ 134217728 → TextCall 23 (bts l) (bts (fold l)) := fun l h w => by
    have := fold_any (bts l) w (by rw [bts_size]; omega)
    rwa [bts_list] at this
  have k3 : ∀ l : List UInt8, l.length ≤ 134217728 → TextCall 21 (bts l) (bts (downcase l)) := fun l h w => by
    have := downcase_any (bts l) w (by rw [bts_size]; omega)
    rwa [bts_list] at this
  have k4 : ∀ l : List UInt8, l.length ≤ 134217728 → TextCall 25 (bts l) (bts (titlecase l)) := fun l h w => by
    have := titlecase_any (bts l) w (by rw [bts_size]; omega)
    rwa [bts_list] at this
  refine joins_of s t (bts (encs a)) (bts (encs b)) (bts (upcase (encs a))) (bts (upcase (encs b))) (bts (fold (encs a))) (bts (fold (encs b))) (bts (downcase (encs a))) (bts (downcase (encs b))) (bts (titlecase (encs a))) (bts (titlecase (encs b)))
    a b (by omega) (by omega) ha.symm hb.symm rfl rfl (by rw [bts_size]; omega) (by rw [bts_size]; omega) (by rw [bts_size]; omega) (by rw [bts_size]; omega) (by rw [bts_size]; omega) (by rw [bts_size]; omega) (by rw [bts_size]; omega) (by rw [bts_size]; omega) (by rw [bts_size]; omega) (by rw [bts_size]; omega)
    ?_ (k1 _ (by omega)) (k1 _ (by omega)) ?_ (k2 _ (by omega)) (k2 _ (by omega)) ?_ (k3 _ (by omega)) (k3 _ (by omega)) ?_ (k4 _ (by omega)) (k4 _ (by omega)) w
  · rw [bts_app, bts_app, ← upcase_app a b va vb]
    exact k1 _ (by rw [List.length_append]; omega)
  · rw [bts_app, bts_app, ← fold_app a b va vb]
    exact k2 _ (by rw [List.length_append]; omega)
  · rw [bts_space, bts_space, ← downcase_app a b va vb]
    exact k3 _ (by simp only [List.length_append, List.length_cons]; omega)
  · rw [bts_space, bts_space, ← titlecase_app a b va vb]
    exact k4 _ (by simp only [List.length_append, List.length_cons]; omega)
end Go.Proofs.Ytmoakjonlfilgaa
