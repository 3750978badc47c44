/- Walk of the law of texts: written and read as the document says, and read back. -/
import Derived.Test.YtedjpknkiaibjaaTxtC
import Derived.Test.YtedjpknkiaibjaaTxtE
namespace Go.Proofs.Ytedjpknkiaibjaa
open Go.RowKit
set_option linter.unusedVariables false
set_option linter.unusedSimpArgs false

theorem byteAt_bytesOf {L : List Nat} (h : Dig8 L) (i : Nat) : byteAt (bytesOf L) i = L.getD i 0 := by
  unfold byteAt bytesOf
  rw [strOfNums_data]
  simp only [List.getD_eq_getElem?_getD, List.getElem?_map]
  cases hL : L[i]? with
  | none => rfl
  | some x =>
    have hx : x < 256 := h x (List.mem_of_getElem? hL)
    simp
    omega
theorem getD_rev (l : List Nat) (f : Nat → Nat) (i : Nat) (hi : i < l.length) : (l.map f).reverse.getD i 0 = f (l.getD (l.length - 1 - i) 0) := by
  simp only [List.getD_eq_getElem?_getD]
  rw [List.getElem?_reverse (by rw [List.length_map]; exact hi), List.length_map, List.getElem?_map, List.getElem?_eq_getElem (by omega)]
  simp
theorem digs_ne {r x : Nat} (hr : 2 ≤ r) (h : x ≠ 0) : (digs r x).length ≠ 0 := by rw [digs_pos hr h]; simp
theorem txt_size (r x : Nat) : (txt r x).size = (digs r x).length := by unfold txt; rw [bytesOf_size, List.length_reverse, List.length_map]
theorem txt_byte {r x i : Nat} (hr : 2 ≤ r) (hr2 : r ≤ 36) (hi : i < (digs r x).length) : dvn 36 (byteAt (txt r x) i) = (digs r x).getD ((digs r x).length - 1 - i) 0 ∧ (digs r x).getD ((digs r x).length - 1 - i) 0 < r := by
  have hd := (digs_digR hr x).getD (by omega) ((digs r x).length - 1 - i)
  refine ⟨?_, hd⟩
  unfold txt
  rw [byteAt_bytesOf (by
    intro y hy
    rw [List.mem_reverse] at hy
    obtain ⟨z, hz, rfl⟩ := List.mem_map.1 hy
    exact dch_lt (by have := digs_digR hr x z hz; omega)), getD_rev _ _ _ hi, dvn_dch (by omega)]
theorem tval_txt {r x : Nat} (hr : 2 ≤ r) (hr2 : r ≤ 36) : ∀ i, i ≤ (digs r x).length → tval r (txt r x) i = valr r ((digs r x).drop ((digs r x).length - i)) := by
  intro i
  induction i with
  | zero =>
    intro _
    rw [Nat.sub_zero, List.drop_length]
    rfl
  | succ i ih =>
    intro hi
    rw [tval, ih (by omega), (txt_byte hr hr2 (by omega)).1]
    have e : (digs r x).drop ((digs r x).length - (i + 1)) = (digs r x).getD ((digs r x).length - 1 - i) 0 :: (digs r x).drop ((digs r x).length - i) := by
      have h1 : (digs r x).length - (i + 1) < (digs r x).length := by omega
      rw [List.drop_eq_getElem_cons h1, show (digs r x).length - (i + 1) + 1 = (digs r x).length - i by omega]
      congr 1
      have h2 : (digs r x).length - 1 - i < (digs r x).length := by omega
      simp only [List.getD_eq_getElem?_getD, List.getElem?_eq_getElem h2, Option.getD_some]
      congr 1
      omega
    rw [e, valr, Nat.mul_comm, Nat.add_comm]
theorem text_zero {r : Nat} (hr : 2 ≤ r) : numeralS r ⟨#[48]⟩ = true ∧ tval r ⟨#[48]⟩ 1 = 0 := by
  have hb : byteAt ⟨#[48]⟩ 0 = 48 := rfl
  constructor
  · refine (numeralS_iff r _).2 ⟨by decide, fun i hi => ?_⟩
    have e : i = 0 := by
      have : (⟨#[48]⟩ : ByteArray).size = 1 := rfl
      omega
    rw [e, hb]
    show 0 < r
    omega
  · show 0 * r + dvn 36 (byteAt ⟨#[48]⟩ 0) = 0
    rw [hb, Nat.zero_mul]
    rfl
/-- Read of Text is the number. -/
theorem read_back {a : List Nat} {radix : Int} (hd : Dig a) (hs : sound a = true) (hr : decide (2 ≤ radix ∧ radix ≤ 36) = true) (hl : (textS a radix).1.size ≤ 16384) : readS (textS a radix).1 radix = (a, 0) := by
  obtain ⟨ea, na⟩ := sound_words hd hs
  have hr' := of_decide_eq_true hr
  obtain ⟨r, rfl⟩ := Int.eq_ofNat_of_zero_le (show 0 ≤ radix by omega)
  unfold textS at hl ⊢
  unfold readS
  rw [hs, hr] at hl ⊢
  simp only [if_true, Int.toNat_natCast] at hl ⊢
  by_cases hx : val a = 0
  · rw [if_pos hx] at hl ⊢
    obtain ⟨z1, z2⟩ := text_zero (r := r) (by omega)
    rw [z1]
    have hsz : (⟨#[48]⟩ : ByteArray).size = 1 := rfl
    simp only [if_true, hsz, z2]
    rw [if_pos (by omega)]
    rw [ea, hx]
    unfold fitS
    rw [words_zero]
    rfl
  · rw [if_neg hx] at hl ⊢
    have hn : numeralS r (txt r (val a)) = true := by
      refine (numeralS_iff r _).2 ⟨by rw [txt_size]; exact digs_ne (by omega) hx, fun i hi => ?_⟩
      rw [txt_size] at hi
      have h := txt_byte (r := r) (x := val a) (by omega) (by omega) hi
      rw [h.1]
      exact h.2
    rw [hn]
    simp only [if_true]
    rw [if_pos hl, txt_size, tval_txt (by omega) (by omega) _ (Nat.le_refl _), Nat.sub_self, List.drop_zero, valr_digs (by omega)]
    unfold fitS
    rw [if_pos (by rw [← ea]; exact na), ← ea]
theorem textS_bad {a : List Nat} {radix : Int} (h : ¬ (sound a = true ∧ decide (2 ≤ radix ∧ radix ≤ 36) = true)) : (textS a radix).2 = 1 ∨ (textS a radix).2 = 2 := by
  unfold textS
  by_cases hs : sound a = true
  · have hr : decide (2 ≤ radix ∧ radix ≤ 36) = false := by
      cases hd : decide (2 ≤ radix ∧ radix ≤ 36) with
      | false => rfl
      | true => exact absurd ⟨hs, hd⟩ h
    rw [hs, hr]
    exact .inl rfl
  · simp only [Bool.not_eq_true] at hs
    rw [hs]
    exact .inr rfl
theorem textS_good {a : List Nat} {radix : Int} (hs : sound a = true) (hr : decide (2 ≤ radix ∧ radix ≤ 36) = true) : (textS a radix).2 = 0 := by
  unfold textS
  rw [hs, hr]
  simp only [if_true]
  split <;> rfl
theorem fitS_len (n : Nat) : (fitS n).1.length ≤ 512 := by
  unfold fitS
  split
  · assumption
  · simp
theorem readS_len (s : ByteArray) (radix : Int) : (readS s radix).1.length ≤ 512 := by
  unfold readS
  split
  · split
    · split
      · exact fitS_len _
      · simp
    · simp
  · simp

set_option maxHeartbeats 2000000 in
set_option maxRecDepth 1000000 in
theorem texts_walk (w : World) (ao : Option Addr) (ca : Nat) (a : List Nat) (ha : Arg w ao ca a) (s : ByteArray) (hsm : s.size ≤ maxLen) (radix : Int) (r0 : -9223372036854775808 ≤ radix) (r1 : radix ≤ 9223372036854775807) :
    Calls Try.prog 7 #[.slice ao a.length ca, .string s, .int .i64 radix] w fun e w' => e = .returned (.bool true) ∧ Below w.heap.size w w' := by
  have hs63 : s.size ≤ 9223372036854775807 := by unfold maxLen at hsm; omega
  clear hsm
  have c1 := text_any ca radix ha.rd ha.len r0 r1
  have HA : Hid _ := ha
  have HRS : Hid _ := readS_len s radix
  have HBK : Hid _ := fun h1 h2 => read_back (radix := radix) ha.rd.dig h1 h2
  have HBAD : Hid _ := textS_bad (a := a) (radix := radix)
  have HGOOD : Hid _ := textS_good (a := a) (radix := radix)
  have hla := ha.len
  clear ha
  obtain ⟨n, HN⟩ : ∃ n, Hid (a.length = n) := ⟨_, rfl⟩
  obtain ⟨TT, HT⟩ : ∃ D, Hid (textS a radix = D) := ⟨_, rfl⟩
  obtain ⟨RR, HR⟩ : ∃ D, Hid (readS s radix = D) := ⟨_, rfl⟩
  obtain ⟨t, k⟩ := TT
  obtain ⟨x, g⟩ := RR
  rw [HN.out, HT.out] at c1
  rw [HR.out] at HRS
  rw [HT.out] at HBK HBAD HGOOD
  rw [HN.out] at hla ⊢
  dsimp only at c1
  have HC1 : Hid _ := c1
  obtain ⟨lx, HLX⟩ : ∃ n, Hid (x.length = n) := ⟨_, rfl⟩
  clear c1
  go_enter Try.func7, Try.ntmps7
  go_wp2_with fail
  refine Calls.mono HC1.out ?_
  rintro e w1 ⟨rfl, b1⟩
  have c2 := rtext_any ca radix (HA.out.rd.below b1) HA.out.len HA.out.caps HA.out.nil r0 r1
  rw [HN.out, HT.out] at c2
  dsimp only at c2
  have HC2 : Hid _ := c2
  have HB1 : Hid _ := b1
  clear b1 c2 HC1
  go_wp2_with fail
  refine Calls.mono HC2.out ?_
  rintro e w2 ⟨rfl, b2⟩
  have HB2 : Hid _ := chain2 HB1.out b2
  have c3 := read_any s radix w2 hs63 r0 r1
  rw [HR.out] at c3
  have HC3 : Hid _ := c3
  clear b2 c3 HC2
  go_wp2_with fail
  refine Calls.mono HC3.out ?_
  rintro e w3 ⟨xo, xc, rfl, ox, b3⟩
  have HX3 : Hid (Rd w3 xo x) := ox.rd
  have HB3 : Hid _ := chain2 HB2.out b3
  have c4 := rread_any s radix w3 hs63 r0 r1
  rw [HR.out] at c4
  have HC4 : Hid _ := c4
  simp only [HLX.out]
  clear ox b3 c4 HC3
  go_wp2_with fail
  refine Calls.mono HC4.out ?_
  rintro e w4 ⟨yo, yc, rfl, oy, b4⟩
  have HY4 : Hid (Rd w4 yo x) := oy.rd
  have HX4 : Hid _ := HX3.out.below b4
  have HB4 : Hid _ := chain2 HB3.out b4
  simp only [HLX.out]
  clear oy b4 HC4
  go_wp2_with fail
  refine (awake_any w4).mono ?_
  rintro e w5 ⟨rfl, b5⟩
  have c6 := same_any xc yc (HX4.out.below b5) (HY4.out.below b5) (by have := HRS.out; omega)
  rw [HLX.out] at c6
  have HC6 : Hid _ := c6
  have HB5 : Hid _ := chain2 HB4.out b5
  clear b5 c6
  go_wp2_with fail
  refine Calls.mono HC6.out ?_
  rintro e w6 ⟨rfl, b6⟩
  have HB6 : Hid _ := chain2 HB5.out b6
  clear b6 HC6
  by_cases hgood : sound a = true ∧ decide (2 ≤ radix ∧ radix ≤ 36) = true
  · have hk : k = 0 := HGOOD.out hgood.1 hgood.2
    subst hk
    by_cases hl : t.size ≤ 16384
    · have hbk := HBK.out hgood.1 hgood.2 hl
      have c7 := read_any t radix w6 (by omega) r0 r1
      try dsimp only at hbk
      rw [hbk] at c7
      have HC7 : Hid _ := c7
      clear hbk c7 hgood
      go_wp2_with fail
      refine Calls.mono HC7.out ?_
      rintro e w7 ⟨zo, zc, rfl, oz, b7⟩
      have HB7 : Hid _ := chain2 HB6.out b7
      have c8 := same_any zc ca oz.rd (HA.out.rd.below HB7.out) HA.out.len
      rw [HN.out] at c8
      have HC8 : Hid _ := c8
      simp only [HN.out]
      clear oz b7 c8 HC7
      go_wp2_with fail
      refine Calls.mono HC8.out ?_
      rintro e w8 ⟨rfl, b8⟩
      have HB8 : Hid _ := chain2 HB7.out b8
      clear b8 HC8
      go_wp2
      go_ret
      exact ⟨rfl, HB8.out⟩
    · have hl2 : (16384 : Int) < (t.size : Int) := by omega
      clear hgood
      go_wp2
      go_ret
      exact ⟨rfl, HB6.out⟩
  · rcases HBAD.out hgood with hk | hk
    all_goals
      try dsimp only at hk
      subst hk
      clear hgood
      go_wp2
      go_ret
      exact ⟨rfl, HB6.out⟩
end Go.Proofs.Ytedjpknkiaibjaa
