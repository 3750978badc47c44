/- Walk of the law of sums. -/
import Derived.Test.YtedjpknkiaibjaaNatO
namespace Go.Proofs.Ytedjpknkiaibjaa
open Go.RowKit
set_option linter.unusedVariables false
set_option linter.unusedSimpArgs false

theorem size_sound {a : List Nat} (hd : Dig a) : bitsS a = if sound a then bl (val a) else 0 := rfl

set_option maxHeartbeats 2000000 in
set_option maxRecDepth 1000000 in
theorem sums_walk (w : World) (ao : Option Addr) (ca : Nat) (a : List Nat) (ha : Arg w ao ca a) (sa : a.length * 4 ≤ 140737488351232) (bo : Option Addr) (cb : Nat) (b : List Nat) (hb : Arg w bo cb b) (sb : b.length * 4 ≤ 140737488351232)
    (nI : Int) (n0 : 0 ≤ nI) (n1 : nI ≤ 18446744073709551615) :
    Calls Try.prog 3 #[.slice ao a.length ca, .slice bo b.length cb, .int .u64 nI] w fun e w' => e = .returned (.bool true) ∧ Below w.heap.size w w' := by
  obtain ⟨nn, rfl⟩ := Int.eq_ofNat_of_zero_le n0
  have HA : Hid _ := ha
  have HB : Hid _ := hb
  have HSA : Hid _ := sa
  have HSB : Hid _ := sb
  obtain ⟨n, hn⟩ : ∃ n, a.length = n := ⟨_, rfl⟩
  obtain ⟨m, hm⟩ : ∃ m, b.length = m := ⟨_, rfl⟩
  have HN : Hid _ := hn
  have HM : Hid _ := hm
  rw [hn] at sa ⊢
  rw [hm] at sb ⊢
  clear hn hm ha hb n0
  have o1 : (w.alloc (.cells #[] 33)).ownsRow w.heap.size 33 1 (.slice (some ⟨w.heap.size, 0, none⟩) 0 0) 0 [] := World.ownsRow_made w #[] 0 (Nat.le_refl _) (by decide) rfl
  have b1 : Below w.heap.size w (w.alloc (.cells #[] 33)) := (Below.refl _ _).alloc (Nat.le_refl _) _
  have z1 : (w.alloc (.cells #[] 33)).heap.size = w.heap.size + 1 := by simp
  have r1 := HA.out.rd.below b1
  go_enter Try.func3, Try.ntmps3
  go_wp2_with (at_builtin; refine append_copy rfl (.tmp 20) (.tmp 21) rfl w.heap.size _ rfl o1 (by rw [z1]; omega) ao n ca a rfl r1 HN.out HA.out.nil sa ?_)
  intro xo xc wx ox gx
  have bx := grown_below b1 o1 gx (by rw [z1]; omega)
  have HOX : Hid _ := ox
  have HBX : Hid _ := bx
  clear o1 b1 z1 r1 ox gx bx
  have o2 : (wx.alloc (.cells #[] 33)).ownsRow wx.heap.size 33 1 (.slice (some ⟨wx.heap.size, 0, none⟩) 0 0) 0 [] := World.ownsRow_made wx #[] 0 (Nat.le_refl _) (by decide) rfl
  have b2 : Below wx.heap.size wx (wx.alloc (.cells #[] 33)) := (Below.refl _ _).alloc (Nat.le_refl _) _
  have z2 : (wx.alloc (.cells #[] 33)).heap.size = wx.heap.size + 1 := by simp
  have r2 := (HB.out.rd.below HBX.out).below b2
  go_wp2_with (at_builtin; refine append_copy rfl (.tmp 23) (.tmp 24) rfl wx.heap.size _ rfl o2 (by rw [z2]; omega) bo m cb b rfl r2 HM.out HB.out.nil sb ?_)
  intro yo yc wy oy gy
  have by2 := grown_below b2 o2 gy (by rw [z2]; omega)
  have st : St w wy xo yo ao bo a b := ⟨HOX.out.rd.below by2, oy.rd, (HA.out.rd.below HBX.out).below by2, (HB.out.rd.below HBX.out).below by2, chain2 HBX.out by2⟩
  have hxl : ∀ c, xo = some c → c.block < wy.heap.size := fun c hc => Nat.lt_of_lt_of_le (HOX.out.lt c hc).2 by2.size
  have hyl : ∀ c, yo = some c → c.block < wy.heap.size := fun c hc => (oy.lt c hc).2
  have HXL : Hid _ := hxl
  have HYL : Hid _ := hyl
  have HCX : Hid (a.length ≤ xc) := HOX.out.caps
  have HCY : Hid (b.length ≤ yc) := oy.caps
  have HS0 : Hid _ := st
  clear o2 b2 z2 r2 oy gy by2 st hxl hyl
  have la : a.length ≤ 9223372036854775807 := HA.out.len
  have lb : b.length ≤ 9223372036854775807 := HB.out.len
  -- sums
  have c1 := add_any xc yc HS0.out.rx HS0.out.ry la lb
  rw [HN.out, HM.out] at c1
  have HC1 : Hid _ := c1
  clear c1
  have HLA : Hid _ := la
  have HLB : Hid _ := lb
  clear la lb
  have HLR : Hid _ := addS_len a b
  obtain ⟨r, hr⟩ : ∃ r, addS a b = r := ⟨_, rfl⟩
  have HR : Hid _ := hr
  rw [hr] at HC1 HLR
  clear hr
  have HLS : Hid _ := subS_len (b := b) HA.out.rd.dig
  obtain ⟨q, hq⟩ : ∃ q, subS a b = q := ⟨_, rfl⟩
  have HQ : Hid _ := hq
  rw [hq] at HLS
  clear hq
  go_wp2_with fail
  refine Calls.mono HC1.out ?_
  rintro e w1 ⟨po, pc, rfl, op, e1⟩
  have HP1 : Hid _ := op
  have HS1 : Hid _ := HS0.out.step e1
  have HE1 : Hid _ := e1
  have c2 := radd_any ca cb HS1.out.ra HS1.out.rb HLA.out HLB.out
  rw [HR.out, HN.out, HM.out] at c2
  have HC2 : Hid _ := c2
  clear op e1 c2 HC1
  go_wp2_with fail
  refine Calls.mono HC2.out ?_
  rintro e w2 ⟨qo, qc, rfl, oq, e2⟩
  have HP2 : Hid _ := HP1.out.below e2
  have HQ2 : Hid _ := oq.rd
  have HS2 : Hid _ := HS1.out.step e2
  have c3 := sub_any xc yc HS2.out.rx HS2.out.ry HLA.out HLB.out
  rw [HQ.out, HN.out, HM.out] at c3
  have HC3 : Hid _ := c3
  have HE2 : Hid _ := e2
  clear oq e2 c3 HC2
  go_wp2_with fail
  refine Calls.mono HC3.out ?_
  rintro e w3 ⟨so, sc, rfl, os, e3⟩
  have HP3 : Hid _ := HP2.out.below e3
  have HQ3 : Hid _ := HQ2.out.below e3
  have HSS3 : Hid _ := os
  have HS3 : Hid _ := HS2.out.step e3
  have c4 := rsub_any ca cb HS3.out.ra HS3.out.rb HLA.out HLB.out
  rw [HQ.out, HN.out, HM.out] at c4
  have HC4 : Hid _ := c4
  have HE3 : Hid _ := e3
  clear os e3 c4 HC3
  go_wp2_with fail
  refine Calls.mono HC4.out ?_
  rintro e w4 ⟨to, tc, rfl, ot, e4⟩
  have HP4 : Hid _ := HP3.out.below e4
  have HQ4 : Hid _ := HQ3.out.below e4
  have HSS4 : Hid _ := HSS3.out.below e4
  have HT4 : Hid _ := ot.rd
  have HS4 : Hid _ := HS3.out.step e4
  have HE4 : Hid _ := e4
  clear ot e4 HC4
  -- the fixed fact
  go_wp2_with fail
  refine (awake_any w4).mono ?_
  rintro e w5 ⟨rfl, e5⟩
  have HP5 : Hid _ := HP4.out.below e5
  have HSS5 : Hid _ := HSS4.out.below e5
  have HT5 : Hid _ := HT4.out.below e5
  have HS5 : Hid _ := HS4.out.step e5
  have HC6 : Hid _ := same_any pc qc HP5.out.rd (HQ4.out.below e5) (by have := HLR.out; omega)
  have HE5 : Hid _ := e5
  clear e5
  go_wp2_with fail
  refine Calls.mono HC6.out ?_
  rintro e w6 ⟨rfl, e6⟩
  have HP6 : Hid _ := HP5.out.below e6
  have HSS6 : Hid _ := HSS5.out.below e6
  have HS6 : Hid _ := HS5.out.step e6
  have HC7 : Hid _ := same_any sc tc HSS6.out.rd (HT5.out.below e6) (by have := HLS.out; omega)
  have HE6 : Hid _ := e6
  clear e6 HC6
  go_wp2_with fail
  refine Calls.mono HC7.out ?_
  rintro e w7 ⟨rfl, e7⟩
  have HP7 : Hid _ := HP6.out.below e7
  have HSS7 : Hid _ := HSS6.out.below e7
  have HS7 : Hid _ := HS6.out.step e7
  have c8 := cmp_any xc yc HS7.out.rx HS7.out.ry HLA.out HLB.out
  rw [HN.out, HM.out] at c8
  have HC8 : Hid _ := c8
  have HE7 : Hid _ := e7
  clear e7 c8 HC7
  obtain ⟨k, hk⟩ : ∃ k, cmpS a b = k := ⟨_, rfl⟩
  have HK : Hid _ := hk
  rw [hk] at HC8
  clear hk
  go_wp2_with fail
  refine Calls.mono HC8.out ?_
  rintro e w8 ⟨rfl, e8⟩
  have HP8 : Hid _ := HP7.out.below e8
  have HSS8 : Hid _ := HSS7.out.below e8
  have HS8 : Hid _ := HS7.out.step e8
  have c9 := rcmp_any ca cb HS8.out.ra HS8.out.rb HLA.out HLB.out
  rw [HK.out, HN.out, HM.out] at c9
  have HC9 : Hid _ := c9
  have HE8 : Hid _ := e8
  clear e8 c9 HC8
  go_wp2_with fail
  refine Calls.mono HC9.out ?_
  rintro e w9 ⟨rfl, e9⟩
  have HP9 : Hid _ := HP8.out.below e9
  have HSS9 : Hid _ := HSS8.out.below e9
  have HS9 : Hid _ := HS8.out.step e9
  have d1 := sound_any xc HS9.out.rx HLA.out
  have d2 := rsound_any ca HS9.out.ra HLA.out
  rw [HN.out] at d1 d2
  have HD1 : Hid _ := d1
  have HD2 : Hid _ := d2
  have HE9 : Hid _ := e9
  clear e9 d1 d2 HC9
  obtain ⟨sd, hsd⟩ : ∃ sd, sound a = sd := ⟨_, rfl⟩
  have HSD : Hid _ := hsd
  rw [hsd] at HD1 HD2
  clear hsd
  go_wp2_with fail
  refine Calls.mono HD1.out ?_
  rintro e w' ⟨rfl, hw'⟩
  have hw' := hw'.symm
  subst hw'
  go_wp2_with fail
  refine Calls.mono HD2.out ?_
  rintro e w' ⟨rfl, hw'⟩
  have hw' := hw'.symm
  subst hw'
  have c10 := of_any nn w9 (by omega)
  have HC10 : Hid _ := c10
  clear c10
  go_wp2_with fail
  refine Calls.mono HC10.out ?_
  rintro e w10 ⟨fo, fc, rfl, of, e10⟩
  have HF10 : Hid _ := of.rd
  have HP10 : Hid _ := HP9.out.below e10
  have HSS10 : Hid _ := HSS9.out.below e10
  have HS10 : Hid _ := HS9.out.step e10
  have HC11 : Hid _ := rof_any nn w10 (by omega)
  have HE10 : Hid _ := e10
  clear of e10 HC10
  go_wp2_with fail
  refine Calls.mono HC11.out ?_
  rintro e w11 ⟨go, gc, rfl, og, e11⟩
  have HP11 : Hid _ := HP10.out.below e11
  have HSS11 : Hid _ := HSS10.out.below e11
  have HS11 : Hid _ := HS10.out.step e11
  have hlen : (words nn).length ≤ 2 := words_length_le (by unfold pw; omega)
  have HC12 : Hid _ := same_any fc gc (HF10.out.below e11) og.rd (by omega)
  have HE11 : Hid _ := e11
  clear og e11 HC11 hlen
  go_wp2_with fail
  refine Calls.mono HC12.out ?_
  rintro e w12 ⟨rfl, e12⟩
  have HP12 : Hid _ := HP11.out.below e12
  have HSS12 : Hid _ := HSS11.out.below e12
  have HS12 : Hid _ := HS11.out.step e12
  have HE12 : Hid _ := e12
  clear e12 HC12
  have hsz1 : wy.heap.size ≤ w2.heap.size := Nat.le_trans HE1.out.size HE2.out.size
  have HSZ : Hid _ := hsz1
  have HSW : Hid (w.heap.size ≤ wy.heap.size) := HS0.out.bel.size
  have HLW : Hid (∀ c : Addr, po = some c → c.block < w2.heap.size) := fun c hc => Nat.lt_of_lt_of_le (HP1.out.lt c hc).2 HE2.out.size
  have HAL : Hid (a ≠ [] → ∀ c, ao = some c → c.block < wy.heap.size) := fun hne c hc => Nat.lt_of_lt_of_le (HA.out.rd.lt hne c hc) HSW.out
  have HBL : Hid (b ≠ [] → ∀ c, bo = some c → c.block < wy.heap.size) := fun hne c hc => Nat.lt_of_lt_of_le (HB.out.rd.lt hne c hc) HSW.out
  clear hsz1 HD1 HD2 HP1 HP2 HP3 HP4 HP5 HP6 HP7 HP8 HP9 HP10 HP11 HSS3 HSS4 HSS5 HSS6 HSS7 HSS8 HSS9 HSS10 HSS11 HQ2 HQ3 HQ4 HT4 HT5 HF10 HS1 HS2 HS3 HS4 HS5 HS6 HS7 HS8 HS9 HS10 HS11 HE1 HE2 HE3 HE4 HE5 HE6 HE7 HE8 HE9 HE10 HE11 HE12 HOX HBX
  have d3 := rsound_any ca HS12.out.ra HLA.out
  rw [HN.out, HSD.out] at d3
  obtain ⟨z, HZ⟩ : ∃ z, Hid (bitsS a = z) := ⟨_, rfl⟩
  have HZE : Hid (if sd then bl (val a) = z else z = 0) := by
    have := HZ.out
    unfold bitsS at this
    rw [HSD.out] at this
    cases sd
    · exact show z = 0 by simpa using this.symm
    · exact show bl (val a) = z by simpa using this
  obtain ⟨np, HNP⟩ : ∃ np, Hid (r.1.length = np) := ⟨_, rfl⟩
  obtain ⟨ns, HNS⟩ : ∃ ns, Hid (q.1.length = ns) := ⟨_, rfl⟩
  rw [HNP.out, HNS.out]
  have hnp : np ≤ 512 := by rw [← HNP.out]; exact HLR.out
  have hns : ns ≤ 512 := by rw [← HNS.out]; exact HLS.out
  cases sd
  all_goals
    go_wp2_with fail
    refine d3.mono ?_
    rintro e w' ⟨rfl, hw'⟩
    have hw' := hw'.symm
    subst hw'
    clear d3
    first
    | (have hz0 : z = 0 := by have := HZE.out; simpa using this
       subst hz0
       go_wp2)
    | (have hzz : bl (val a) = z := by have := HZE.out; simpa using this
       obtain ⟨ea, na⟩ := sound_words HA.out.rd.dig HSD.out
       have c13 := size_any (x := val a) ca (by rw [← ea]; exact HS12.out.ra) (by rw [← ea]; omega)
       rw [← ea, HN.out, hzz] at c13
       have HC13 : Hid _ := c13
       clear c13 ea na hzz
       go_wp2_with fail
       refine Calls.mono HC13.out ?_
       rintro e w' ⟨rfl, hw'⟩
       have hw' := hw'.symm
       subst hw'
       clear HC13
       go_wp2)
    go_loopw [18] (fun v wr => ∃ (i : Nat) (L : List Nat), i ≤ np ∧ v = .int .i64 (i : Int) ∧ L.length = np ∧ Own wy.heap.size wr po pc L ∧ w12.grownBy wr (Value.slice po np pc).ownBlock) (fun v _ => np - (intOf v).toNat)
    case atStart => exact ⟨0, r.1, Nat.zero_le _, rfl, HNP.out, HP12.out, World.grownBy.refl _ _⟩
    case round =>
      obtain ⟨i, L, hi, rfl, hL, hown, hgr⟩ := hrel
      have HL : Hid _ := hL
      clear hL
      by_cases hin : i < np
      · have hne : po ≠ none := by
          intro e
          subst e
          have := hown.none_cap
          have h2 := hown.caps
          rw [HL.out] at h2
          omega
        obtain ⟨g, rfl, hg1, hg2⟩ := hown.form hne
        have k1 := hown.cell i (by rw [HL.out]; omega)
        have k2 := hown.frozen i
        have HO : Hid _ := own_seven hown i
        have HG : Hid _ := grown_trans hgr (hown.setG i 7)
        clear hown hgr hne
        go_wp2
        go_roundw
        case rel => exact ⟨i + 1, L.set i 7, by omega, by go_num, by rw [List.length_set]; exact HL.out, HO.out, HG.out⟩
        case measure => simp only [intOf]; omega
      · have hst : St w wr xo yo ao bo a b := HS12.out.write hgr (B := wy.heap.size) (fun k hk => (hown.row.lt k (by rw [HL.out]; exact hk)).1) HSW.out (fun _ => HXL.out) (fun _ => HYL.out) HAL.out HBL.out
        have hss : Own w2.heap.size wr so sc q.1 := by
          refine HSS12.out.kept hgr ?_
          intro c hc e
          cases po with
          | none => simp [Value.ownBlock] at e
          | some d =>
            simp only [Value.ownBlock, Option.some.injEq] at e
            have h1 := (HSS12.out.lt c hc).1
            have h2 := HLW.out d rfl
            omega
        have HST : Hid _ := hst
        have HSO : Hid _ := hss
        clear hown hgr hst hss
        go_wp2
        go_loopw [19] (fun v wr2 => ∃ (i : Nat) (L : List Nat), i ≤ ns ∧ v = .int .i64 (i : Int) ∧ L.length = ns ∧ Own w2.heap.size wr2 so sc L ∧ wr.grownBy wr2 (Value.slice so ns sc).ownBlock) (fun v _ => ns - (intOf v).toNat)
        case atStart => exact ⟨0, q.1, Nat.zero_le _, rfl, HNS.out, HSO.out, World.grownBy.refl _ _⟩
        case round =>
          obtain ⟨i2, L2, hi2, rfl, hL2, hown, hgr⟩ := hrel
          have HL2 : Hid _ := hL2
          clear hL2
          by_cases hin2 : i2 < ns
          · have hne : so ≠ none := by
              intro e
              subst e
              have := hown.none_cap
              have h2 := hown.caps
              rw [HL2.out] at h2
              omega
            obtain ⟨g, rfl, hg1, hg2⟩ := hown.form hne
            have k1 := hown.cell i2 (by rw [HL2.out]; omega)
            have k2 := hown.frozen i2
            have HO : Hid _ := own_seven hown i2
            have HG : Hid _ := grown_trans hgr (hown.setG i2 7)
            clear hown hgr hne
            go_wp2
            go_roundw
            case rel => exact ⟨i2 + 1, L2.set i2 7, by omega, by go_num, by rw [List.length_set]; exact HL2.out, HO.out, HG.out⟩
            case measure => simp only [intOf]; omega
          · have hst : St w wr xo yo ao bo a b := HST.out.write hgr (B := w2.heap.size) (fun k hk => (hown.row.lt k (by rw [HL2.out]; exact hk)).1) (Nat.le_trans HSW.out HSZ.out) (fun _ c hc => Nat.lt_of_lt_of_le (HXL.out c hc) HSZ.out) (fun _ c hc => Nat.lt_of_lt_of_le (HYL.out c hc) HSZ.out) (fun hne c hc => Nat.lt_of_lt_of_le (HAL.out hne c hc) HSZ.out) (fun hne c hc => Nat.lt_of_lt_of_le (HBL.out hne c hc) HSZ.out)
            have c20 := bits_any xc hst.rx HLA.out
            rw [HN.out, HZ.out] at c20
            have HC20 : Hid _ := c20
            have HST2 : Hid _ := hst
            clear hown hgr hst c20
            go_wp2_with fail
            refine Calls.mono HC20.out ?_
            rintro e w' ⟨rfl, hw'⟩
            have hw' := hw'.symm
            subst hw'
            have c21 := same_any xc ca HST2.out.rx HST2.out.ra HLA.out
            rw [HN.out] at c21
            have HC21 : Hid _ := c21
            clear HC20 c21
            go_wp2_with fail
            refine Calls.mono HC21.out ?_
            rintro e w21 ⟨rfl, e21⟩
            have HST3 : Hid _ := HST2.out.step e21
            have c22 := same_any yc cb HST3.out.ry HST3.out.rb HLB.out
            rw [HM.out] at c22
            have HC22 : Hid _ := c22
            clear HC21 c22 e21
            go_wp2_with fail
            refine Calls.mono HC22.out ?_
            rintro e w22 ⟨rfl, e22⟩
            have HST4 : Hid _ := HST3.out.step e22
            clear e22
            go_wp2
            go_ret
            exact ⟨rfl, HST4.out.bel⟩
end Go.Proofs.Ytedjpknkiaibjaa
