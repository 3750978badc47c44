/- RdT RdU RdV RdW Qd RdX TrC RdY RdZ ReA EqO Ov RsA ReB ReC Qb ReD ReE -/
import Derived.Test.YtclkfideaameoaaGreatDoorPdatumb11i
import Derived.Test.YtclkfideaameoaaGreatDoorPdatumb11f
import Derived.Test.YtclkfideaameoaaGreatDoorPdatumb11h
import Derived.Test.YtclkfideaameoaaGreatDoorPdatumb11g
import Derived.Defers
import Derived.Recover
import Derived.KernelRfl
import Derived.Test.YtclkfideaameoaaGreatDoorPdatumb11d
import Derived.Test.YtclkfideaameoaaGreatDoorRows
import Derived.Handed
import Derived.FnData
import Derived.LaidLaws
import Derived.Lib.LaidU8
set_option linter.unusedVariables false
set_option linter.unusedSimpArgs false
set_option maxHeartbeats 1000000
namespace Go.Proofs.YtclkfideaameoaaGreatDoor.G
open Go.RowKit
set_option maxRecDepth 100000

def ItC (f0 : Nat) : Prop := ∀ {w0 w : World} {g p : Nat} {lg : Bool} {L : List UInt8} {U Z : List Ck} {ec : UInt8}, Env w0 → Cu U → Ob Z → p ≤ L.length → L.length ≤ 1000000000 → 2 * (L.length - p) + 2 ≤ f0 → Mg w0 w (.obj g (rC L p lg) :: (U ++ Z)) → Calls Tryz.prog 36 #[pA g 0, .string (tx [ec])] w fun e w' => (e = .panicked flt ∧ itm f0 ec (L.drop p) = none ∧ ∃ q lg2, Mg w0 w' (.obj g (rC L q lg2) :: (U ++ Z))) ∨ ∃ so ca ts U1 F n b, e = .returned (.slice so (List.length ts) ca) ∧ (itm f0 ec (L.drop p) = some (List.map Dt.tr ts, n, b) ∧ p + n ≤ L.length ∧ 1 ≤ n ∧ List.length ts ≤ n) ∧ (IR 30 so ca ts U1 ∧ (∀ t ∈ ts, Lv w0 (F ++ Z) t) ∧ Ob F) ∧ Mg w0 w' (.obj g (rC L (p + n) ((lg || b))) :: ((U1 ++ U) ++ (F ++ Z)))
theorem zhc {ec : UInt8} {l : List UInt8} {o : Option Nat} {n : Nat} (h : moK ec l o = some (false, n)) : 1 ≤ n := by
 unfold moK at h
 cases o with
 | none => cases h
 | some a =>
  rw [Option.bind_some] at h
  by_cases k : Lib.hasPrefix (l.drop a) [ec] = true
  ·
   rw [if_pos k] at h; cases h; omega
  ·
   rw [if_neg k] at h; cases h
theorem zsa {w0 : World} {Z F : List Ck} {ts : List Dt} {t : Dt} (h : ∀ t ∈ ts, Lv w0 Z t) (ht : Lv w0 (F ++ Z) t) : ∀ x ∈ ts ++ [t], Lv w0 (F ++ Z) x := fun x hx => by
 rcases List.mem_append.1 hx with hx | hx
 ·
  exact (h x hx).app F
 ·
  rw [List.mem_singleton.1 hx]; exact ht
theorem qod {f0 : Nat} (ih : ∀ f, f < f0 → SkC f ∧ DaC f) : ItC f0 := by
 intro w0 w g p lg L U Z ec hN hUb hZ hp hl hf0 hM0
 have M : Mg w0 w (.obj g (rC L p lg) :: (U ++ Z)) := hM0
 refine jq (l := [(0, pA g 0), (1, .string ((tx ([ec]))))]) Tryz.func36 rfl Tryz.ntmps36 rfl rfl ?_
 intro Q hret hnorm hP hX a A
 refine wsk fun K1 hK1 => wrl (sda A λa A↦?_)
 refine qa (hK1 _ _ (wsk fun K2 hK2 => wrl (sda A λa A↦?_)))
 refine qa (hK2 _ _ (wsk fun K3 hK3 => wp_block ?_))
 rw [← Bool.or_false lg] at M
 refine js (fun m_ a w1 => ∃ (q : Nat) (f : Nat) (so : Option Addr) (ca : Nat) (ts : List Dt) (U1 : List Ck) (F : List Ck) (bb : Bool), m_ = 1 + (L.length - q) ∧ (q ≤ L.length ∧ 2 * (L.length - q) + 2 ≤ f ∧ f ≤ f0 ∧ ts.length ≤ q - p ∧ IR 30 so ca ts U1 ∧ (∀ t ∈ ts, Lv w0 (F ++ Z) t) ∧ Ob F ∧ TI ec L (itm f0 ec (L.drop p)) p q f (ts.map Dt.tr) bb) ∧ Sl a 15 [(0, pA g 0), (1, .string ((tx ([ec])))), (4, .slice none 0 0), (5, .slice so ts.length ca)] ∧ Mg w0 w1 (.obj g (rC L q ((lg || bb))) :: ((U1 ++ U) ++ (F ++ Z)))) _ ⟨p, f0, none, 0, [], [], [], false, rfl, ⟨hp, hf0, Nat.le_refl _, Nat.zero_le _, IR.start _, (fun t h => by cases h), Ob.nil, Nat.le_refl _, by rw [Nat.sub_self]; simp⟩, A.keep _ ⟨rfl, rfl, rfl, rfl, trivial⟩, M⟩ ?_
 clear M A
 rintro m_ a w4 ⟨q, f, so, ca, ts, U1, F, bb, rfl, hinv6, A, M⟩ K5 hK5
 obtain ⟨hq0, hf1, hf2, hsl, hI, hts, hF, hi⟩ := hinv6
 have hpq := hi.1
 obtain ⟨f, rfl⟩ : ∃ f1, f = f1 + 1 := ⟨f - 1, by omega⟩
 refine wsk fun K7 hK7 => wsk fun K8 hK8 => wrl ?_
 iterate 2 refine sdm A λa A↦?_
 refine qz A rfl rfl rfl (ef rfl rfl) (qlh (f := f) (ih f (by omega)).1 (U := (U1 ++ U)) (Z := (F ++ Z)) hN (Cu.app hI.cu hUb) (Ob.app hF hZ) (by omega) (by omega) (by omega) M) ?_
 rintro _ w14 (⟨rfl, hp15⟩ | ⟨b113, n9, rfl, ⟨hm10, hl11⟩, hM12⟩)
 ·
  exact .inl ⟨_, rfl, hX _ _ _ _ _ A (.inl ⟨rfl, hi.no hp15.1, hp15.2.elim fun q9 h9 => h9.elim fun l9 h9 => ⟨q9, l9, h9.sub (.cons_cons _ yr)⟩⟩)⟩
 replace M : Mg w0 w14 (.obj g (rC L (q + n9) ((lg || bb))) :: ((U1 ++ U) ++ (F ++ Z))) := hM12
 refine .inr ⟨_, rfl, ?_⟩
 intro a A
 refine qa (hK8 _ _ ?_)
 refine wp_cond_split (t := b113) (A.ev rfl) (fun hc16 => ?_) (fun hc16 => ?_)
 ·
  have b113h : b113 = true := by simpa using hc16
  refine wp_skip (hK7 _ _ (wp_block (wrl ?_)))
  iterate 2 refine sdm A λa A↦?_
  refine qz A rfl rfl rfl (ef rfl rfl) ((ih f (by omega)).2 (U := (U1 ++ U)) (Z := (F ++ Z)) hN (Cu.app hI.cu hUb) (Ob.app hF hZ) (by omega) (by omega) (by omega) M) ?_
  rintro _ w27 (⟨rfl, hp28⟩ | ⟨t17, F18, n19, b20, rfl, ⟨hd21, hl22, hn23⟩, ⟨hL24, hO25⟩, hM26⟩)
  ·
   exact .inl ⟨_, rfl, hX _ _ _ _ _ A (.inl ⟨rfl, hi.no2 (by rw [hm10, b113h]) hp28.1, hp28.2.elim fun q9 h9 => h9.elim fun l9 h9 => ⟨q9, l9, h9.sub (.cons_cons _ yr)⟩⟩)⟩
  replace M : Mg w0 w27 (.obj g (rC L (q + n9 + n19) (((lg || bb) || b20))) :: ((U1 ++ U) ++ (F18 ++ (F ++ Z)))) := hM26
  refine .inr ⟨_, rfl, ?_⟩
  intro a A
  refine qpf (e := 30) (sz := 11) (m := 1) (vs := t17.cells) A M rfl rfl rfl (xa rfl (by kernel_rfl)) rfl rfl (.inl (by decide)) ?_
  intro g29 w30 M a A
  replace M : Mg w0 w30 (.obj g (rC L (q + n9 + n19) (((lg || bb) || b20))) :: .row 30 11 (.slice (aO g29) 1 1) 1 t17.cells :: ((U1 ++ U) ++ (F18 ++ (F ++ Z)))) := M.bring 1 rfl rfl
  replace M : Mg w0 w30 (.row 30 11 (.slice (aO g29) 1 1) 1 t17.cells :: .obj g (rC L (q + n9 + n19) (((lg || bb) || b20))) :: ((U1 ++ U) ++ (F18 ++ (F ++ Z)))) := M.bring 1 rfl rfl
  replace M : Mg w0 w30 (.row 30 11 (.slice (aO g29) 1 1) 1 t17.cells :: .obj g (rC L (q + n9 + n19) (((lg || bb) || b20))) :: (U1 ++ (U ++ (F18 ++ (F ++ Z))))) := by rw [List.append_assoc] at M; exact M
  refine zpg (e := 30) (m := (ts ++ [t17]).length) (ts := ts ++ [t17]) (c := .obj g (rC L (q + n9 + n19) (((lg || bb) || b20)))) (X := (U ++ (F18 ++ (F ++ Z)))) A rfl rfl rfl (zpf (z := .agg zD.toArray) (by_ := 192) Tryz.underlying28 (by kernel_rfl) rfl rfl rfl hI M (zx (by simp) (kh hUb.ob.nob (Ob.app hO25 (Ob.app hF hZ)).nob)) rfl rfl (by omega)) ?_
  intro so31 ca32 U33 w34 hI35 M a A
  replace M : Mg w0 w34 (.obj g (rC L (q + n9 + n19) (((lg || bb) || b20))) :: ((U33 ++ U) ++ (F18 ++ (F ++ Z)))) := by rw [← List.append_assoc] at M; exact M
  refine sda A λa A↦?_
  refine qa ?_
  have hta : ∀ x ∈ ts ++ [t17], Lv w0 ((F18 ++ F) ++ Z) x := by rw [List.append_assoc]; exact zsa hts hL24
  replace M : Mg w0 w34 (.obj g (rC L (q + n9 + n19) (((lg || bb) || b20))) :: ((U33 ++ U) ++ ((F18 ++ F) ++ Z))) := by rw [List.append_assoc F18 F Z]; exact M
  rw [Bool.or_assoc] at M
  refine hK5 _ _ _ (by omega) ⟨q + n9 + n19, f, so31, ca32, ts ++ [t17], U33, F18 ++ F, bb || b20, rfl, ⟨by omega, by omega, by omega, by rw [List.length_append, List.length_singleton]; omega, hI35, hta, Ob.app hO25 hF, by rw [List.map_append, List.map_singleton]; exact hi.go (by rw [hm10, b113h]) hd21⟩, A.keep _ ⟨rfl, rfl, rfl, rfl, trivial⟩, M⟩
 ·
  have b113h : b113 = false := by simpa using hc16
  refine wp_exit (hK3 _ _ (wsk fun K36 hK36 => wrl (sdm A λa A↦?_)))
  refine sda A λa A↦?_
  refine qa (hK36 _ _ (wr1 hret A ?_))
  refine .inr ⟨so, ca, ts, U1, F, q + n9 - p, bb, rfl, ⟨hi.fin (by rw [hm10, b113h]), by omega, by have := zhc (by rw [hm10, b113h]); omega, by omega⟩, ⟨hI, hts, hF⟩, ?_⟩
  rw [show p + (q + n9 - p) = q + n9 by omega]
  exact M
def lsX (f : Nat) (ec : UInt8) (l : List UInt8) : Option (Tr × Nat × Bool) := (lst f ec true l).map fun r => (yz r.1 r.2.1, r.2.2.1, r.2.2.2)
def LiC (f0 : Nat) : Prop := ∀ {w0 w : World} {g p : Nat} {lg : Bool} {L : List UInt8} {U Z : List Ck} {ec : UInt8}, Env w0 → Cu U → Ob Z → p ≤ L.length → L.length ≤ 1000000000 → 2 * (L.length - p) + 2 ≤ f0 → Mg w0 w (.obj g (rC L p lg) :: (U ++ Z)) → Calls Tryz.prog 35 #[pA g 0, .string (tx [ec])] w fun e w' => (e = .panicked flt ∧ lsX f0 ec (L.drop p) = none ∧ ∃ q lg2, Mg w0 w' (.obj g (rC L q lg2) :: (U ++ Z))) ∨ ∃ t F n b, e = .returned (.agg (t.d.cells t.ts.length).toArray) ∧ (lsX f0 ec (L.drop p) = some (t.tr, n, b) ∧ p + n ≤ L.length ∧ 1 ≤ n) ∧ (Lv w0 (F ++ Z) t ∧ Ob F) ∧ Mg w0 w' (.obj g (rC L (p + n) ((lg || b))) :: (U ++ (F ++ Z)))
theorem qbg {ts : List Dt} {b : Bool} (h : decide (0 < ((ts.length : Nat) : Int)) = b) : (ts.map Dt.tr).isEmpty = !b := by
 rw [← h]
 cases ts with
 | nil => rfl
 | cons a t => rw [decide_eq_true (by simp only [List.length_cons]; omega)]; rfl
theorem uq {f0 : Nat} {ec : UInt8} {l : List UInt8} (h : lst f0 ec true l = none) : lsX f0 ec l = none := by unfold lsX; rw [h]; rfl
theorem zhd {f0 n : Nat} {ec : UInt8} {l : List UInt8} {a : List Tr} {z t : Tr} {b : Bool} (h : lst f0 ec true l = some (a, z, n, b)) (ht : t = yz a z) : lsX f0 ec l = some (t, n, b) := by unfold lsX; rw [h, ht]; rfl
theorem zsb {f0 : Nat} (ih : ∀ f, f < f0 → SkC f ∧ DaC f) : LiC f0 := by
 intro w0 w g p lg L U Z ec hN hUb hZ hp hl hf0 hM0
 have hT := hN.tb
 have M : Mg w0 w (.obj g (rC L p lg) :: (U ++ Z)) := hM0
 refine jq (l := [(0, pA g 0), (1, .string ((tx ([ec]))))]) Tryz.func35 rfl Tryz.ntmps35 rfl rfl ?_
 intro Q hret hnorm hP hX a H
 refine wsk fun K1 hK1 => wrl (vv (vs := zD) (t := 30) H M rfl rfl rfl pg (ql (z := .agg zD.toArray) (by kernel_rfl) rfl) (by decide) ?_)
 intro g2 w3 M a H
 refine qa (hK1 _ _ (wsk fun K4 hK4 => wrl (sda H λa H↦?_)))
 refine qa (hK4 _ _ (wsk fun K5 hK5 => wp_block ?_))
 replace M : Mg w0 w3 (.obj g (rC L p lg) :: .obj g2 zC :: (U ++ Z)) := M.bring 1 rfl rfl
 rw [← Bool.or_false lg] at M
 refine js (fun m_ a w1 => ∃ (q : Nat) (f : Nat) (so : Option Addr) (ca : Nat) (ts : List Dt) (U1 : List Ck) (F : List Ck) (bb : Bool), m_ = 1 + (L.length - q) ∧ (q ≤ L.length ∧ 2 * (L.length - q) + 2 ≤ f ∧ f ≤ f0 ∧ ts.length ≤ q - p ∧ IR 30 so ca ts U1 ∧ (∀ t ∈ ts, Lv w0 (F ++ Z) t) ∧ Ob F ∧ UI ec L (lst f0 ec true (L.drop p)) p q f (ts.map Dt.tr) bb) ∧ Sl a 36 [(0, pA g 0), (1, .string ((tx ([ec])))), (4, pA g2 0), (5, .slice so ts.length ca)] ∧ Mg w0 w1 (.obj g (rC L q ((lg || bb))) :: .obj g2 zC :: ((U1 ++ U) ++ (F ++ Z)))) _ ⟨p, f0, none, 0, [], [], [], false, rfl, ⟨hp, hf0, Nat.le_refl _, Nat.zero_le _, IR.start _, (fun t h => by cases h), Ob.nil, Nat.le_refl _, by rw [Nat.sub_self]; simp⟩, H.keep _ ⟨rfl, rfl, rfl, rfl, trivial⟩, M⟩ ?_
 clear M H
 rintro m_ a w6 ⟨q, f, so, ca, ts, U1, F, bb, rfl, hinv8, H, M⟩ K7 hK7
 obtain ⟨hq0, hf1, hf2, hsl, hI, hts, hF, hi⟩ := hinv8
 have hpq := hi.1
 obtain ⟨f, rfl⟩ : ∃ f1, f = f1 + 1 := ⟨f - 1, by omega⟩
 refine wsk fun K9 hK9 => wsk fun K10 hK10 => wrl ?_
 iterate 2 refine sdm H λa H↦?_
 refine qz H rfl rfl rfl (ef rfl rfl) (qlh (f := f) (ih f (by omega)).1 (U := (.obj g2 zC :: (U1 ++ U))) (Z := (F ++ Z)) hN (Cu.cons rfl (Cu.app hI.cu hUb)) (Ob.app hF hZ) (by omega) (by omega) (by omega) M) ?_
 rintro _ w16 (⟨rfl, hp17⟩ | ⟨b115, n11, rfl, ⟨hm12, hl13⟩, hM14⟩)
 ·
  exact .inl ⟨_, rfl, hX _ _ _ _ _ H (.inl ⟨rfl, uq (hi.no hp17.1), hp17.2.elim fun q9 h9 => h9.elim fun l9 h9 => ⟨q9, l9, h9.sub (.cons_cons _ (.cons _ yr))⟩⟩)⟩
 replace M : Mg w0 w16 (.obj g (rC L (q + n11) ((lg || bb))) :: .obj g2 zC :: ((U1 ++ U) ++ (F ++ Z))) := hM14
 refine .inr ⟨_, rfl, ?_⟩
 intro a H
 refine qa (hK10 _ _ ?_)
 refine wp_cond_split (t := b115) (H.ev rfl) (fun hc18 => ?_) (fun hc18 => ?_)
 ·
  have b115h : b115 = true := by simpa using hc18
  refine wp_skip (hK9 _ _ (wp_block (wsk fun K19 hK19 => wsk fun K20 hK20 => wrl (sdm H λa H↦?_))))
  rcases tf (qia (L.drop (q + n11))) with hb21 | hb21
  ·
   have hdl : 1 ≤ (L.drop (q + n11)).length := (List.isPrefixOf_iff_prefix.1 (zeh (of_decide_eq_true hb21))).length_le
   rw [List.length_drop] at hdl
   refine sct H (ef rfl rfl) (zib (p := q + n11) (L := L) (T := (.obj g2 zC :: ((U1 ++ U) ++ (F ++ Z)))) hT (by omega) (by omega) hb21 M) ?_
   rintro _ w23 ⟨rfl, hM22⟩
   replace M : Mg w0 w23 (.obj g (rC L (q + n11 + 1) ((lg || bb))) :: .obj g2 zC :: ((U1 ++ U) ++ (F ++ Z))) := hM22
   refine ⟨_, rfl, ?_⟩
   intro a H
   refine qa (hK20 _ _ (ct H ?_))
   refine wsk fun K24 hK24 => wrl (sdm H λa H↦?_)
   refine sdo H (zv Tryz.underlying28 rfl) λa H↦?_
   rcases tf (decide (0 < ((ts.length : Nat) : Int))) with hb25 | hb25
   ·
    have hb25' := of_decide_eq_true hb25
    refine sdc H ja hb25 λa H↦?_
    refine gcl H M (ef rfl rfl) (vq) fun w27 hb26 M a H => ?_
    refine qa (hK24 _ _ (wsk fun K28 hK28 => wrl (sdm H λa H↦?_)))
    refine qz H rfl rfl rfl (ef rfl rfl) ((ih f (by omega)).1 (U := (.obj g2 zC :: (U1 ++ U))) (Z := (F ++ Z)) hN (Cu.cons rfl (Cu.app hI.cu hUb)) (Ob.app hF hZ) (by omega) (by omega) (by omega) M) ?_
    rintro _ w33 (⟨rfl, hp34⟩ | ⟨n29, rfl, ⟨hs30, hl31⟩, hM32⟩)
    ·
     exact .inl ⟨_, rfl, hX _ _ _ _ _ H (.inl ⟨rfl, uq (by rw [hi.dot (by rw [hm12, b115h]) hb21, show dtX _ _ _ _ = none from by unfold dtX; rw [if_neg (by rw [qbg hb25]; decide), hp34.1]; rfl]; rfl), hp34.2.elim fun q9 h9 => h9.elim fun l9 h9 => ⟨q9, l9, h9.sub (.cons_cons _ (.cons _ yr))⟩⟩)⟩
    replace M : Mg w0 w33 (.obj g (rC L (q + n11 + 1 + n29) ((lg || bb))) :: .obj g2 zC :: ((U1 ++ U) ++ (F ++ Z))) := hM32
    refine .inr ⟨_, rfl, ?_⟩
    intro a H
    refine qa (hK28 _ _ (wsk fun K35 hK35 => wrl (sdm H λa H↦?_)))
    refine qz H rfl rfl rfl (ef rfl rfl) ((ih f (by omega)).2 (U := (.obj g2 zC :: (U1 ++ U))) (Z := (F ++ Z)) hN (Cu.cons rfl (Cu.app hI.cu hUb)) (Ob.app hF hZ) (by omega) (by omega) (by omega) M) ?_
    rintro _ w46 (⟨rfl, hp47⟩ | ⟨t36, F37, n38, b39, rfl, ⟨hd40, hl41, hn42⟩, ⟨hL43, hO44⟩, hM45⟩)
    ·
     exact .inl ⟨_, rfl, hX _ _ _ _ _ H (.inl ⟨rfl, uq (by rw [hi.dot (by rw [hm12, b115h]) hb21, show dtX _ _ _ _ = none from by unfold dtX; rw [if_neg (by rw [qbg hb25]; decide), hs30, Option.bind_some, List.drop_drop, hp47.1]; rfl]; rfl), hp47.2.elim fun q9 h9 => h9.elim fun l9 h9 => ⟨q9, l9, h9.sub (.cons_cons _ (.cons _ yr))⟩⟩)⟩
    replace M : Mg w0 w46 (.obj g (rC L (q + n11 + 1 + n29 + n38) (((lg || bb) || b39))) :: .obj g2 zC :: ((U1 ++ U) ++ (F37 ++ (F ++ Z)))) := hM45
    refine .inr ⟨_, rfl, ?_⟩
    intro a H
    refine vv (vs := zD) (t := 30) H M rfl rfl rfl pg (ql (z := .agg zD.toArray) (by kernel_rfl) rfl) (by decide) ?_
    intro g48 w49 M a H
    refine zp (L' := (.obj g48 (.cells (t36.d.cells t36.ts.length).toArray 30) :: .obj g (rC L (q + n11 + 1 + n29 + n38) (((lg || bb) || b39))) :: .obj g2 zC :: ((U1 ++ U) ++ (F37 ++ (F ++ Z))))) H M rfl rfl (ze rfl rfl rfl (by kernel_rfl) M 0 rfl rfl rfl) 0 rfl rfl rfl ?_
    intro w50 M
    refine qa (hK35 _ _ (wsk fun K51 hK51 => wrl ?_))
    iterate 2 refine sdm H λa H↦?_
    replace M : Mg w0 w50 (.obj g (rC L (q + n11 + 1 + n29 + n38) (((lg || bb) || b39))) :: .obj g48 (.cells (t36.d.cells t36.ts.length).toArray 30) :: .obj g2 zC :: ((U1 ++ U) ++ (F37 ++ (F ++ Z)))) := M.bring 1 rfl rfl
    refine qz H rfl rfl rfl (ef rfl rfl) (qlh (f := f) (ih f (by omega)).1 (U := (.obj g48 (.cells (t36.d.cells t36.ts.length).toArray 30) :: .obj g2 zC :: (U1 ++ U))) (Z := (F37 ++ (F ++ Z))) hN (Cu.cons rfl (Cu.cons rfl (Cu.app hI.cu hUb))) (Ob.app hO44 (Ob.app hF hZ)) (by omega) (by omega) (by omega) M) ?_
    rintro _ w57 (⟨rfl, hp58⟩ | ⟨b156, n52, rfl, ⟨hm53, hl54⟩, hM55⟩)
    ·
     exact .inl ⟨_, rfl, hX _ _ _ _ _ H (.inl ⟨rfl, uq (by rw [hi.dot (by rw [hm12, b115h]) hb21, show dtX _ _ _ _ = none from by unfold dtX; rw [if_neg (by rw [qbg hb25]; decide), hs30, Option.bind_some, List.drop_drop, hd40, Option.bind_some, List.drop_drop, hp58.1]; rfl]; rfl), hp58.2.elim fun q9 h9 => h9.elim fun l9 h9 => ⟨q9, l9, h9.sub (.cons_cons _ (.cons _ (.cons _ zgj)))⟩⟩)⟩
    replace M : Mg w0 w57 (.obj g (rC L (q + n11 + 1 + n29 + n38 + n52) (((lg || bb) || b39))) :: .obj g48 (.cells (t36.d.cells t36.ts.length).toArray 30) :: .obj g2 zC :: ((U1 ++ U) ++ (F37 ++ (F ++ Z)))) := hM55
    refine .inr ⟨_, rfl, ?_⟩
    intro a H
    rcases b156 with _ | _
    ·
     refine sdo (v := bV true) H (zi rfl zr) λa H↦?_
     refine gcl H M (ef rfl rfl) (vq) fun w60 hb59 M a H => ?_
     refine qa (hK51 _ _ (wsk fun K61 hK61 => wrl (sdm H λa H↦?_)))
     refine sdo H (vf M xz rfl 1 rfl (cs := [iV t36.d.k, iV t36.d.n, bV t36.d.y.q.b1, .slice t36.d.y.o1 t36.d.y.q.t1.length t36.d.y.c1, .slice t36.d.y.o2 t36.d.y.q.q1.length t36.d.y.c2, bV t36.d.y.q.b2, .slice t36.d.y.o3 t36.d.y.q.t2.length t36.d.y.c3, .slice t36.d.y.o4 t36.d.y.q.q2.length t36.d.y.c4, .string t36.d.s, .slice t36.d.ro t36.d.rl.length t36.d.rc, .slice t36.d.lo t36.ts.length t36.d.lc]) rfl rfl) λa H↦?_
     have hrt := hI.rt M (fun c hc => List.mem_cons_of_mem _ (List.mem_cons_of_mem _ (List.mem_cons_of_mem _ (List.mem_append_left _ (List.mem_append_left _ hc)))))
     have hMz := M.sub (cn (cn (cn (List.sublist_append_right _ _))))
     have htz : ∀ x ∈ ts, Lv w0 (F37 ++ (F ++ Z)) x := fun x hx => (hts x hx).app F37
     have hnb : xn (U ++ (F37 ++ (F ++ Z))) := kh hUb.ob.nob (Ob.app hO44 (Ob.app hF hZ)).nob
     have hMs : Mg w0 w60 (.obj g (rC L (q + n11 + 1 + n29 + n38 + n52) (((lg || bb) || b39))) :: .obj g48 (.cells (t36.d.cells t36.ts.length).toArray 30) :: .obj g2 zC :: (U ++ (F37 ++ (F ++ Z)))) := M.sub (.cons_cons _ (.cons_cons _ (.cons_cons _ (List.Sublist.append (List.sublist_append_right _ _) (.refl _)))))
     refine sct H (ef rfl rfl) (qha (ts := ts) (u := t36) hrt (fun x hx => htz x hx _ hMz) (hL43 _ hMz) (by omega)) ?_
     rintro _ w63 ⟨t2, rfl, ⟨hr2, htt2⟩, hb62, hst⟩
     have hL2 : Lv w0 (made w60 w63 ++ (F37 ++ (F ++ Z))) t2 := zbd (K := fun w9 => (∀ x ∈ ts, x.rd w9) ∧ Dt.rd w9 t36) (fun w9 h9 hk => hst w9 h9 hk.1 hk.2) (fun w9 h9 => ⟨fun x hx => htz x hx w9 h9, hL43 w9 h9⟩)
     replace M : Mg w0 w63 (.obj g (rC L (q + n11 + 1 + n29 + n38 + n52) (((lg || bb) || b39))) :: .obj g48 (.cells (t36.d.cells t36.ts.length).toArray 30) :: .obj g2 zC :: (U ++ (made w60 w63 ++ (F37 ++ (F ++ Z))))) := (qqb (A := [.obj g (rC L (q + n11 + 1 + n29 + n38 + n52) (((lg || bb) || b39))), .obj g48 (.cells (t36.d.cells t36.ts.length).toArray 30), .obj g2 zC]) (X := U) (Y := (F37 ++ (F ++ Z))) hMs (zx (by simp) (zx (by simp) (zx (by simp) hnb))) hb62)
     refine ⟨_, rfl, ?_⟩
     intro a H
     refine zp (L' := (.obj g (rC L (q + n11 + 1 + n29 + n38 + n52) (((lg || bb) || b39))) :: .obj g48 (.cells (t36.d.cells t36.ts.length).toArray 30) :: .obj g2 (.cells (t2.d.cells t2.ts.length).toArray 30) :: (U ++ (made w60 w63 ++ (F37 ++ (F ++ Z)))))) H M rfl rfl (ze rfl rfl rfl (by kernel_rfl) M 2 rfl rfl rfl) 2 rfl rfl rfl ?_
     intro w64 M
     refine qa (hK61 _ _ (wp_ret (hret _ _ (en1 H rfl (zu M xz rfl 2 rfl (cs := [iV t2.d.k, iV t2.d.n, bV t2.d.y.q.b1, .slice t2.d.y.o1 t2.d.y.q.t1.length t2.d.y.c1, .slice t2.d.y.o2 t2.d.y.q.q1.length t2.d.y.c2, bV t2.d.y.q.b2, .slice t2.d.y.o3 t2.d.y.q.t2.length t2.d.y.c3, .slice t2.d.y.o4 t2.d.y.q.q2.length t2.d.y.c4, .string t2.d.s, .slice t2.d.ro t2.d.rl.length t2.d.rc, .slice t2.d.lo t2.ts.length t2.d.lc]) rfl rfl) ?_))))
     rw [Bool.or_assoc] at M
     refine .inr ⟨t2, made w60 w63 ++ (F37 ++ F), q + n11 + 1 - p + (n29 + n38 + n52), bb || b39, rfl, ⟨zhd (by rw [hi.dot (by rw [hm12, b115h]) hb21, show dtX _ _ _ _ = some (t36.tr, (n29 + n38 + n52), b39) from by unfold dtX; rw [if_neg (by rw [qbg hb25]; decide), hs30, Option.bind_some, List.drop_drop, hd40, Option.bind_some, List.drop_drop, hm53, Option.bind_some, if_neg (show ¬ (false = true) by decide)]]; rfl) htt2, by omega, by omega⟩, ⟨by simp only [List.append_assoc]; exact hL2, Ob.app Ob.made (Ob.app hO44 hF)⟩, ?_⟩
     rw [show p + (q + n11 + 1 - p + (n29 + n38 + n52)) = q + n11 + 1 + n29 + n38 + n52 by omega]
     have h9 := M.sub (cc (cn (cn (.refl _))))
     simp only [List.append_assoc]
     exact h9
    ·
     refine sdo (v := bV false) H (zi rfl zr) λa H↦?_
     refine qz H rfl rfl rfl (ef rfl rfl) (xu) ?_
     rintro _ w66 ⟨rfl, hp67⟩
     exact .inl ⟨_, rfl, hX _ _ _ _ _ H (.inl ⟨rfl, uq (by rw [hi.dot (by rw [hm12, b115h]) hb21, show dtX _ _ _ _ = none from by unfold dtX; rw [if_neg (by rw [qbg hb25]; decide), hs30, Option.bind_some, List.drop_drop, hd40, Option.bind_some, List.drop_drop, hm53, Option.bind_some, if_pos rfl]]; rfl), _, _, (M.call hp67).sub (.cons_cons _ (.cons _ (.cons _ zgj)))⟩)⟩
   ·
    have hb25' := of_decide_eq_false hb25
    refine sdc H ja hb25 λa H↦?_
    refine qz H rfl rfl rfl (ef rfl rfl) (xu) ?_
    rintro _ w69 ⟨rfl, hp70⟩
    exact .inl ⟨_, rfl, hX _ _ _ _ _ H (.inl ⟨rfl, uq (by rw [hi.dot (by rw [hm12, b115h]) hb21, show dtX _ _ _ _ = none from by unfold dtX; rw [if_pos (by rw [qbg hb25]; rfl)]]; rfl), _, _, (M.call hp70).sub (.cons_cons _ (.cons _ yr))⟩)⟩
  ·
   refine sct H (ef rfl rfl) (zic (p := q + n11) (L := L) (T := (.obj g2 zC :: ((U1 ++ U) ++ (F ++ Z)))) hT (by omega) (by omega) hb21 M) ?_
   rintro _ w72 ⟨rfl, hM71⟩
   replace M : Mg w0 w72 (.obj g (rC L (q + n11) ((lg || bb))) :: .obj g2 zC :: ((U1 ++ U) ++ (F ++ Z))) := hM71
   refine ⟨_, rfl, ?_⟩
   intro a H
   refine qa (hK20 _ _ (cf H ?_))
   refine wp_skip (hK19 _ _ (wrl ?_))
   iterate 2 refine sdm H λa H↦?_
   refine qz H rfl rfl rfl (ef rfl rfl) ((ih f (by omega)).2 (U := (.obj g2 zC :: (U1 ++ U))) (Z := (F ++ Z)) hN (Cu.cons rfl (Cu.app hI.cu hUb)) (Ob.app hF hZ) (by omega) (by omega) (by omega) M) ?_
   rintro _ w83 (⟨rfl, hp84⟩ | ⟨t73, F74, n75, b76, rfl, ⟨hd77, hl78, hn79⟩, ⟨hL80, hO81⟩, hM82⟩)
   ·
    exact .inl ⟨_, rfl, hX _ _ _ _ _ H (.inl ⟨rfl, uq (hi.no2 (by rw [hm12, b115h]) hb21 hp84.1), hp84.2.elim fun q9 h9 => h9.elim fun l9 h9 => ⟨q9, l9, h9.sub (.cons_cons _ (.cons _ yr))⟩⟩)⟩
   replace M : Mg w0 w83 (.obj g (rC L (q + n11 + n75) (((lg || bb) || b76))) :: .obj g2 zC :: ((U1 ++ U) ++ (F74 ++ (F ++ Z)))) := hM82
   refine .inr ⟨_, rfl, ?_⟩
   intro a H
   refine qpf (e := 30) (sz := 11) (m := 1) (vs := t73.cells) H M rfl rfl rfl (xa rfl (by kernel_rfl)) rfl rfl (.inl (by decide)) ?_
   intro g85 w86 M a H
   replace M : Mg w0 w86 (.obj g (rC L (q + n11 + n75) (((lg || bb) || b76))) :: .row 30 11 (.slice (aO g85) 1 1) 1 t73.cells :: .obj g2 zC :: ((U1 ++ U) ++ (F74 ++ (F ++ Z)))) := M.bring 1 rfl rfl
   replace M : Mg w0 w86 (.row 30 11 (.slice (aO g85) 1 1) 1 t73.cells :: .obj g (rC L (q + n11 + n75) (((lg || bb) || b76))) :: .obj g2 zC :: ((U1 ++ U) ++ (F74 ++ (F ++ Z)))) := M.bring 1 rfl rfl
   replace M : Mg w0 w86 (.row 30 11 (.slice (aO g85) 1 1) 1 t73.cells :: .obj g (rC L (q + n11 + n75) (((lg || bb) || b76))) :: (U1 ++ (.obj g2 zC :: (U ++ (F74 ++ (F ++ Z)))))) := M.perm (by
    refine .cons _ (.cons _ ?_)
    show (_ :: ((U1 ++ U) ++ (F74 ++ (F ++ Z)))).Perm _
    rw [List.append_assoc]
    exact List.perm_middle.symm)
   refine zpg (e := 30) (m := (ts ++ [t73]).length) (ts := ts ++ [t73]) (c := .obj g (rC L (q + n11 + n75) (((lg || bb) || b76)))) (X := (.obj g2 zC :: (U ++ (F74 ++ (F ++ Z))))) H rfl rfl rfl (zpf (z := .agg zD.toArray) (by_ := 192) Tryz.underlying28 (by kernel_rfl) rfl rfl rfl hI M (zx (by simp) (zx (by simp) (kh hUb.ob.nob (Ob.app hO81 (Ob.app hF hZ)).nob))) rfl rfl (by omega)) ?_
   intro so87 ca88 U89 w90 hI91 M a H
   replace M : Mg w0 w90 (.obj g (rC L (q + n11 + n75) (((lg || bb) || b76))) :: .obj g2 zC :: ((U89 ++ U) ++ (F74 ++ (F ++ Z)))) := M.perm (by
    refine .cons _ ?_
    show (U89 ++ (_ :: (U ++ (F74 ++ (F ++ Z))))).Perm (_ :: ((U89 ++ U) ++ (F74 ++ (F ++ Z))))
    rw [List.append_assoc]
    exact List.perm_middle)
   refine sda H λa H↦?_
   refine qa ?_
   replace M : Mg w0 w90 (.obj g2 zC :: .obj g (rC L (q + n11 + n75) (((lg || bb) || b76))) :: ((U89 ++ U) ++ (F74 ++ (F ++ Z)))) := M.bring 1 rfl rfl
   replace M : Mg w0 w90 (.obj g (rC L (q + n11 + n75) (((lg || bb) || b76))) :: .obj g2 zC :: ((U89 ++ U) ++ (F74 ++ (F ++ Z)))) := M.bring 1 rfl rfl
   have hta : ∀ x ∈ ts ++ [t73], Lv w0 ((F74 ++ F) ++ Z) x := by rw [List.append_assoc]; exact zsa hts hL80
   replace M : Mg w0 w90 (.obj g (rC L (q + n11 + n75) (((lg || bb) || b76))) :: .obj g2 zC :: ((U89 ++ U) ++ ((F74 ++ F) ++ Z))) := by rw [List.append_assoc F74 F Z]; exact M
   rw [Bool.or_assoc] at M
   refine hK7 _ _ _ (by omega) ⟨q + n11 + n75, f, so87, ca88, ts ++ [t73], U89, F74 ++ F, bb || b76, rfl, ⟨by omega, by omega, by omega, by rw [List.length_append, List.length_singleton]; omega, hI91, hta, Ob.app hO81 hF, by rw [List.map_append, List.map_singleton]; exact hi.go (by rw [hm12, b115h]) hb21 hd77⟩, H.keep _ ⟨rfl, rfl, rfl, rfl, trivial⟩, M⟩
 ·
  have b115h : b115 = false := by simpa using hc18
  refine wp_exit (hK5 _ _ (wsk fun K92 hK92 => wrl (sdm H λa H↦?_)))
  refine sdo (v := .agg #[iV 1, iV 0, bV false, .slice none 0 0, .slice none 0 0, bV false, .slice none 0 0, .slice none 0 0, .string (⟨#[]⟩), .slice none 0 0, .slice none 0 0]) H (zb rfl (fun w => by kernel_rfl)) λa H↦?_
  have hrt := hI.rt M (fun c hc => List.mem_cons_of_mem _ (List.mem_cons_of_mem _ (List.mem_append_left _ (List.mem_append_left _ hc))))
  have hMz := M.sub (cn (cn (List.sublist_append_right _ _)))
  have htz : ∀ x ∈ ts, Lv w0 (F ++ Z) x := hts
  have hnb : xn (U ++ (F ++ Z)) := kh hUb.ob.nob (Ob.app hF hZ).nob
  have hMs : Mg w0 w16 (.obj g (rC L (q + n11) ((lg || bb))) :: .obj g2 zC :: (U ++ (F ++ Z))) := M.sub (.cons_cons _ (.cons_cons _ (List.Sublist.append (List.sublist_append_right _ _) (.refl _))))
  refine sct H (ef rfl rfl) (qha (ts := ts) (u := zji) hrt (fun x hx => htz x hx _ hMz) (qii _) (by omega)) ?_
  rintro _ w94 ⟨t2, rfl, ⟨hr2, htt2⟩, hb93, hst⟩
  have hL2 : Lv w0 (made w16 w94 ++ (F ++ Z)) t2 := zbd (K := fun w9 => (∀ x ∈ ts, x.rd w9) ∧ Dt.rd w9 zji) (fun w9 h9 hk => hst w9 h9 hk.1 hk.2) (fun w9 h9 => ⟨fun x hx => htz x hx w9 h9, qii w9⟩)
  replace M : Mg w0 w94 (.obj g (rC L (q + n11) ((lg || bb))) :: .obj g2 zC :: (U ++ (made w16 w94 ++ (F ++ Z)))) := (qqb (A := [.obj g (rC L (q + n11) ((lg || bb))), .obj g2 zC]) (X := U) (Y := (F ++ Z)) hMs (zx (by simp) (zx (by simp) hnb)) hb93)
  refine ⟨_, rfl, ?_⟩
  intro a H
  refine zp (L' := (.obj g (rC L (q + n11) ((lg || bb))) :: .obj g2 (.cells (t2.d.cells t2.ts.length).toArray 30) :: (U ++ (made w16 w94 ++ (F ++ Z))))) H M rfl rfl (ze rfl rfl rfl (by kernel_rfl) M 1 rfl rfl rfl) 1 rfl rfl rfl ?_
  intro w95 M
  refine qa (hK92 _ _ (wp_ret (hret _ _ (en1 H rfl (zu M xz rfl 1 rfl (cs := [iV t2.d.k, iV t2.d.n, bV t2.d.y.q.b1, .slice t2.d.y.o1 t2.d.y.q.t1.length t2.d.y.c1, .slice t2.d.y.o2 t2.d.y.q.q1.length t2.d.y.c2, bV t2.d.y.q.b2, .slice t2.d.y.o3 t2.d.y.q.t2.length t2.d.y.c3, .slice t2.d.y.o4 t2.d.y.q.q2.length t2.d.y.c4, .string t2.d.s, .slice t2.d.ro t2.d.rl.length t2.d.rc, .slice t2.d.lo t2.ts.length t2.d.lc]) rfl rfl) ?_))))
  refine .inr ⟨t2, made w16 w94 ++ F, q + n11 - p, bb, rfl, ⟨zhd (hi.fin (by rw [hm12, b115h])) (by rw [htt2, zgc]), by omega, by have := zhc (by rw [hm12, b115h]); omega⟩, ⟨by simp only [List.append_assoc]; exact hL2, Ob.app Ob.made hF⟩, ?_⟩
  rw [show p + (q + n11 - p) = q + n11 by omega]
  have h9 := M.sub (cc (cn (.refl _)))
  simp only [List.append_assoc]
  exact h9
def byF (f : Nat) (ec : UInt8) (l : List UInt8) : Option (List UInt8 × Nat × Bool) := (itm f ec l).bind fun r => (byX r.1).map fun s => (s, r.2.1, r.2.2)
theorem qrg {f n : Nat} {ec : UInt8} {l : List UInt8} {ts : List Tr} {b : Bool} (h : itm f ec l = some (ts, n, b)) (h2 : byX ts = none) : byF f ec l = none := by unfold byF; rw [h, Option.bind_some, h2]; rfl
theorem zye {f n : Nat} {ec : UInt8} {l r : List UInt8} {ts : List Tr} {b : Bool} (h : itm f ec l = some (ts, n, b)) (h2 : byX ts = some r) : byF f ec l = some (r, n, b) := by unfold byF; rw [h, Option.bind_some, h2]; rfl
def BI (ts : List Tr) (i : Nat) (rl : List UInt8) : Prop := byX ts = (byX (ts.drop i)).map (rl ++ ·)
theorem jgj (t : Dt) : t.tr.q = t.d.y.q := by cases t; rw [Dt.tr_mk]; rfl
theorem BI.go {ts : List Dt} {i : Nat} {rl : List UInt8} {t : Dt} {z e : Int} (h : BI (ts.map Dt.tr) i rl) (hi : ts[i]? = some t) (hz : ke t.d.y.q = (z, e)) (h0 : e = 0) (h1 : 0 ≤ z) (h2 : z ≤ 255) : BI (ts.map Dt.tr) (i + 1) (rl ++ [z.toNat.toUInt8]) := by
 unfold BI at h ⊢
 rw [h, yv hi, byX, jgj, hz, if_pos ⟨h0, h1, h2⟩, Option.map_map]
 congr 1
 funext r
 show rl ++ (z.toNat.toUInt8 :: r) = rl ++ [z.toNat.toUInt8] ++ r
 rw [List.append_assoc]; rfl
theorem BI.no {ts : List Dt} {i : Nat} {rl : List UInt8} {t : Dt} {z e : Int} (h : BI (ts.map Dt.tr) i rl) (hi : ts[i]? = some t) (hz : ke t.d.y.q = (z, e)) (hn : ¬ (e = 0 ∧ 0 ≤ z ∧ z ≤ 255)) : byX (ts.map Dt.tr) = none := by
 unfold BI at h
 rw [h, yv hi, byX, jgj, hz, if_neg hn]; rfl
theorem BI.fin {ts : List Dt} {i : Nat} {rl : List UInt8} (h : BI (ts.map Dt.tr) i rl) (hi : ¬ i < ts.length) : byX (ts.map Dt.tr) = some rl := by
 unfold BI at h
 rw [h, qgc hi, byX]
 show some (rl ++ []) = _
 rw [List.append_nil]
theorem jda {w : World} {t : Dt} (h : t.rd w) : t.d.y.nm w ∧ LenQ t.d.y.q := by
 cases t
 rw [Dt.rd_iff] at h
 exact ⟨h.1.num, h.1.len⟩
theorem jha {w0 w : World} {v : Value} {rl : List UInt8} {L : List Ck} (M : Mg w0 w (.row BY 1 v rl.length (Lib.byteCells rl) :: L)) (hL : xn L) : ∃ ro rc R, v = .slice ro rl.length rc ∧ (rl.length ≤ rc ∧ rc ≤ 9223372036854775807) ∧ Ob R ∧ Mg w0 w (R ++ L) ∧ ∀ w9 Z, Mg w0 w9 (R ++ Z) → Rb w9 ro rl := by
 rcases zge M hL with ⟨h1, h2, _, h4⟩ | ⟨g, cap, cur, h1, h2, h3, h4, h5, h6⟩
 ·
  refine ⟨none, 0, [], by rw [h1, h2], ⟨by omega, by omega⟩, Ob.nil, h4, fun w9 Z _ => ⟨fun h => absurd (List.length_eq_zero_iff.1 h2) h⟩⟩
 ·
  refine ⟨_, cap, [.obj g (.cells cur BY)], h1, ⟨h2, Nat.le_trans h3 (by decide)⟩, Ob.cons Ob.nil, h6, fun w9 Z h9 => ?_⟩
  have hh := h9.all _ List.mem_cons_self
  have hown : w9.ownsRow w0.heap.size BY 1 (.slice (aO g) rl.length cap) rl.length (Lib.byteCells rl) := ⟨by simp [Lib.byteCells], .inr ⟨g, cap, cur, rfl, hh.1, hh.2, h2, h3, h4, h5⟩⟩
  refine ⟨fun hne => ⟨g, 0, rfl, (Array.getElem?_eq_some_iff.1 hh.2).1, fun j hj => ?_⟩⟩
  rw [Nat.zero_add, World.ownsRow.cellAt hown j (by omega)]
  simp [Lib.byteCells, List.getD_eq_getElem?_getD, hj]
theorem jhb {w0 w : World} {c : Ck} {R U1 U F Z : List Ck} (h : Mg w0 w (R ++ (c :: ((U1 ++ U) ++ (F ++ Z))))) : Mg w0 w (c :: (U ++ ((R ++ F) ++ Z))) := by
 refine (h.sub (L' := R ++ (c :: (U ++ (F ++ Z)))) (.append (.refl _) (.cons_cons _ (.append (List.sublist_append_right _ _) (.refl _))))).perm ?_
 rw [List.append_assoc R F Z]
 exact List.perm_middle.trans (.cons _ (List.perm_append_comm_assoc _ _ _))
theorem zea {P : Program} {s d : TypeId} (hs : P.underlying s = some (.int .i64)) (hd : P.underlying d = some (.int .u8)) {n : Int} (h0 : 0 ≤ n) (h1 : n ≤ 255) : ∀ w, (convert s d (iV n)).run P w = .ok (.int .u8 ((n.toNat.toUInt8.toNat : Nat) : Int)) w := fun w => by
 rw [kj h0 h1]
 simp [go_sem, run_underlying hs, run_underlying hd, convert]
 exact in_u8 h0 h1
def ByC (f0 : Nat) : Prop := ∀ {w0 w : World} {g p : Nat} {lg : Bool} {L : List UInt8} {U Z : List Ck} {ec : UInt8}, Env w0 → Cu U → Ob Z → p ≤ L.length → L.length ≤ 1000000000 → 2 * (L.length - p) + 2 ≤ f0 → Mg w0 w (.obj g (rC L p lg) :: (U ++ Z)) → Calls Tryz.prog 37 #[pA g 0, .string (tx [ec])] w fun e w' => (e = .panicked flt ∧ byF f0 ec (L.drop p) = none ∧ ∃ q lg2, Mg w0 w' (.obj g (rC L q lg2) :: (U ++ Z))) ∨ ∃ ro rl rc F n b, e = .returned (.slice ro (List.length rl) rc) ∧ (byF f0 ec (L.drop p) = some (rl, n, b) ∧ p + n ≤ L.length ∧ 1 ≤ n) ∧ ((∀ w9, Mg w0 w9 (F ++ Z) → Rb w9 ro rl) ∧ List.length rl ≤ rc ∧ rc ≤ 9223372036854775807 ∧ Ob F) ∧ Mg w0 w' (.obj g (rC L (p + n) ((lg || b))) :: (U ++ (F ++ Z)))
theorem zkg {f0 : Nat} (ih : ∀ f, f < f0 → SkC f ∧ DaC f) : ByC f0 := by
 intro w0 w g p lg L U Z ec hN hU hZ hp hl hf0 hM0
 have hIt : ItC f0 := qod ih
 have M : Mg w0 w (.obj g (rC L p lg) :: (U ++ Z)) := hM0
 refine jq (l := [(0, pA g 0), (1, .string ((tx ([ec]))))]) Tryz.func37 rfl Tryz.ntmps37 rfl rfl ?_
 intro Q hret hnorm hP hX a A
 refine wsk fun K1 hK1 => wrl (sda A λa A↦?_)
 refine qa (hK1 _ _ (wsk fun K2 hK2 => wrl (sda A λa A↦?_)))
 refine qa (hK2 _ _ (wsk fun K3 hK3 => wsk fun K4 hK4 => wrl ?_))
 iterate 2 refine sdm A λa A↦?_
 refine qz A rfl rfl rfl (ef rfl rfl) (hIt (U := U) (Z := Z) hN hU hZ (by omega) (by omega) (by omega) M) ?_
 rintro _ w20 (⟨rfl, hp21⟩ | ⟨so5, ca6, ts, U8, F9, n10, b11, rfl, ⟨hd12, hl13, hn14, hk15⟩, ⟨hI16, hts17, hO18⟩, hM19⟩)
 ·
  exact .inl ⟨_, rfl, hX _ _ _ _ _ A (.inl ⟨rfl, by unfold byF; rw [hp21.1]; rfl, hp21.2.elim fun q9 h9 => h9.elim fun l9 h9 => ⟨q9, l9, h9.sub (cc (.refl _))⟩⟩)⟩
 replace M : Mg w0 w20 (.obj g (rC L (p + n10) ((lg || b11))) :: ((U8 ++ U) ++ (F9 ++ Z))) := hM19
 refine .inr ⟨_, rfl, ?_⟩
 intro a A
 refine sdo A (zv Tryz.underlying28 rfl) λa A↦?_
 refine sdm A λa A↦?_
 refine qa (hK4 _ _ (wp_block ?_))
 have hnb : xn ((U8 ++ U) ++ (F9 ++ Z)) := kh (Cu.app hI16.cu hU).ob.nob (Ob.app hO18 hZ).nob
 replace M := M.nilRow (zx (by simp) hnb) BY 1
 replace M : Mg w0 w20 (.row BY 1 (.slice none 0 0) (([] : List UInt8).length) ((Lib.byteCells ([] : List UInt8))) :: .obj g (rC L (p + n10) ((lg || b11))) :: ((U8 ++ U) ++ (F9 ++ Z))) := M
 replace M : Mg w0 w20 (.obj g (rC L (p + n10) ((lg || b11))) :: .row BY 1 (.slice none 0 0) (([] : List UInt8).length) ((Lib.byteCells ([] : List UInt8))) :: ((U8 ++ U) ++ (F9 ++ Z))) := M.bring 1 rfl rfl
 refine js (fun m_ a w1 => ∃ (i : Nat) (rl : List UInt8) (v : Value), m_ = 1 + (ts.length - i) ∧ (i ≤ ts.length ∧ rl.length = i ∧ BI (ts.map Dt.tr) i rl) ∧ Sl a 42 [(0, pA g 0), (1, .string ((tx ([ec])))), (4, .slice none 0 0), (5, v), (10, pA g 0), (11, .string ((tx ([ec])))), (12, .slice so5 ts.length ca6), (13, iV (((ts.length : Nat) : Int))), (14, iV (((i : Nat) : Int)))] ∧ Mg w0 w1 (.obj g (rC L (p + n10) ((lg || b11))) :: .row BY 1 (v) rl.length ((Lib.byteCells rl)) :: ((U8 ++ U) ++ (F9 ++ Z)))) _ ⟨0, [], .slice none 0 0, rfl, ⟨Nat.zero_le _, rfl, by unfold BI; rw [List.drop_zero]; simp⟩, A.keep _ (by repeat' constructor), M⟩ ?_
 clear M A
 rintro m_ a w22 ⟨i, rl, v, rfl, hinv24, A, M⟩ K23 hK23
 obtain ⟨hi0, hrl, hi⟩ := hinv24
 refine wsk fun K25 hK25 => wrl ?_
 rcases tf (decide (((i : Nat) : Int) < ((ts.length : Nat) : Int))) with hb26 | hb26
 ·
  have hb26' := of_decide_eq_true hb26
  refine sdc A jk hb26 λa A↦?_
  refine qa (hK25 _ _ (wsk fun K27 hK27 => wp_cond_true (A.ev rfl) ?_))
  refine wp_skip (hK27 _ _ (wsk fun K28 hK28 => wp_block (wsk fun K29 hK29 => wrl ?_)))
  have hrt := hI16.rt M (fun c hc => List.mem_cons_of_mem _ (List.mem_cons_of_mem _ (List.mem_append_left _ (List.mem_append_left _ hc))))
  obtain ⟨t1, b1, o1, hi1, hm1, hr1, hlo1, hH1⟩ := jga hrt (fun x hx => hts17 x hx _ (M.sub (cn (cn (List.sublist_append_right _ _))))) (i := i) (by omega)
  obtain ⟨z, ez, hz⟩ : ∃ z e, ke t1.d.y.q = (z, e) := ⟨_, _, rfl⟩
  refine sdo (v := pA b1 (o1 + i * 11)) A (xk (k := i) Tryz.underlying28 (by kernel_rfl) rfl rfl rfl hlo1 (by omega)) λa A↦?_
  refine sdo A (jt rfl (ve xz _ rfl (fun j v hj => hH1.2 j v hj))) λa A↦?_
  refine vv (vs := zD) (t := 30) A M rfl rfl rfl pg (ql (z := .agg zD.toArray) (by kernel_rfl) rfl) (by decide) ?_
  intro g30 w31 M a A
  refine zp (L' := (.obj g30 (.cells (t1.d.cells t1.ts.length).toArray 30) :: .obj g (rC L (p + n10) ((lg || b11))) :: .row BY 1 (v) rl.length ((Lib.byteCells rl)) :: ((U8 ++ U) ++ (F9 ++ Z)))) A M rfl rfl (ze rfl rfl rfl (by kernel_rfl) M 0 rfl rfl rfl) 0 rfl rfl rfl ?_
  intro w32 M
  refine qa (hK29 _ _ (wsk fun K33 hK33 => wrl (sdo (v := pA g30 2) A (qe zab rfl rfl) λa A↦?_)))
  refine sdo A (vf M zvi rfl 0 rfl (cs := [bV t1.d.y.q.b1, .slice t1.d.y.o1 t1.d.y.q.t1.length t1.d.y.c1, .slice t1.d.y.o2 t1.d.y.q.q1.length t1.d.y.c2, bV t1.d.y.q.b2, .slice t1.d.y.o3 t1.d.y.q.t2.length t1.d.y.c3, .slice t1.d.y.o4 t1.d.y.q.q2.length t1.d.y.c4]) rfl rfl) λa A↦?_
  have hnm := jda (hts17 t1 hm1 _ (M.sub (cn (cn (cn (List.sublist_append_right _ _))))))
  refine gcl A M (ef rfl rfl) ((by have h := zdj hnm.1 hnm.2; rw [hz] at h; exact h)) fun w35 hb34 M a A => ?_
  refine sdm A λa A↦?_
  iterate 2 refine sdo A (qi (vs := [iV z, iV ez]) rfl rfl) λa A↦?_
  iterate 2 refine sda A λa A↦?_
  refine qa (hK33 _ _ (wsk fun K36 hK36 => wrl (sdm A λa A↦?_)))
  rcases tf ((ez == 0)) with hb37 | hb37
  ·
   have hb37' := eq_of_beq hb37
   refine sdc A qj hb37 λa A↦?_
   iterate 2 refine sdm A λa A↦?_
   rcases tf (decide (0 ≤ z)) with hb38 | hb38
   ·
    have hb38' := of_decide_eq_true hb38
    refine sdc A jo hb38 λa A↦?_
    refine sdk (v := bV true) A λa A↦?_
    iterate 2 refine sdm A λa A↦?_
    rcases tf (decide (z ≤ 255)) with hb39 | hb39
    ·
     have hb39' := of_decide_eq_true hb39
     refine sdc A jl hb39 λa A↦?_
     refine sdk (v := bV true) A λa A↦?_
     refine gcl A M (ef rfl rfl) (vq) fun w41 hb40 M a A => ?_
     refine qa (hK36 _ _ (wrl ?_))
     iterate 2 refine sdm A λa A↦?_
     refine sdo (v := .int .u8 (((z.toNat.toUInt8.toNat : Nat) : Int))) A (zw rfl (zea Tryz.underlying3 Tryz.underlying5 (by omega) (by omega))) λa A↦?_
     refine jfc (vs := [.int .u8 (((z.toNat.toUInt8.toNat : Nat) : Int))]) A M rfl rfl rfl (xa rfl (by kernel_rfl)) rfl rfl (zx (by simp) (zx (by simp) (zx (by simp) hnb))) ?_
     intro g42 w43 M a A
     refine qsj (k := 3) (q := rl.length) (m := 1) (xs := (Lib.byteCells rl)) (news := [.int .u8 (((z.toNat.toUInt8.toNat : Nat) : Int))]) (L' := fun v44 => (.row BY 1 (.slice (aO g42) 1 1) 1 ([.int .u8 (((z.toNat.toUInt8.toNat : Nat) : Int))]) :: .obj g30 (.cells (t1.d.cells t1.ts.length).toArray 30) :: .obj g (rC L (p + n10) ((lg || b11))) :: .row BY 1 (v44) (rl.length + 1) ((Lib.byteCells rl) ++ [.int .u8 (((z.toNat.toUInt8.toNat : Nat) : Int))]) :: ((U8 ++ U) ++ (F9 ++ Z)))) A rfl rfl rfl (znh Tryz.underlying27 (by kernel_rfl) M 3 rfl rfl 0 rfl rfl rfl rfl (by omega)) (fun _ => rfl) ?_
     intro v44 w45 M a A
     refine sda A λa A↦?_
     refine qa (hK28 _ _ (wrl (sdo (v := iV (((i + 1 : Nat) : Int))) A (qb rfl rfl (ar_add ((in_i64 (by omega) (by omega)).trans (by omega)))) λa A↦?_)))
     refine sdm A λa A↦?_
     refine qa ?_
     replace M : Mg w0 w45 (.row BY 1 (v44) (rl.length + 1) ((Lib.byteCells rl) ++ [.int .u8 (((z.toNat.toUInt8.toNat : Nat) : Int))]) :: .row BY 1 (.slice (aO g42) 1 1) 1 ([.int .u8 (((z.toNat.toUInt8.toNat : Nat) : Int))]) :: .obj g30 (.cells (t1.d.cells t1.ts.length).toArray 30) :: .obj g (rC L (p + n10) ((lg || b11))) :: ((U8 ++ U) ++ (F9 ++ Z))) := M.bring 3 rfl rfl
     replace M : Mg w0 w45 (.obj g (rC L (p + n10) ((lg || b11))) :: .row BY 1 (v44) (rl.length + 1) ((Lib.byteCells rl) ++ [.int .u8 (((z.toNat.toUInt8.toNat : Nat) : Int))]) :: .row BY 1 (.slice (aO g42) 1 1) 1 ([.int .u8 (((z.toNat.toUInt8.toNat : Nat) : Int))]) :: .obj g30 (.cells (t1.d.cells t1.ts.length).toArray 30) :: ((U8 ++ U) ++ (F9 ++ Z))) := M.bring 3 rfl rfl
     replace M : Mg w0 w45 (.obj g (rC L (p + n10) ((lg || b11))) :: .row BY 1 (v44) (rl.length + 1) ((Lib.byteCells rl) ++ [.int .u8 (((z.toNat.toUInt8.toNat : Nat) : Int))]) :: ((U8 ++ U) ++ (F9 ++ Z))) := M.sub (cc (cc (cn (cn (.refl _)))))
     replace M : Mg w0 w45 (.obj g (rC L (p + n10) ((lg || b11))) :: .row BY 1 (v44) ((rl ++ [z.toNat.toUInt8]).length) ((Lib.byteCells (rl ++ [z.toNat.toUInt8]))) :: ((U8 ++ U) ++ (F9 ++ Z))) := by rw [List.length_append, Lib.byteCells_append]; exact M
     refine hK23 _ _ _ (by omega) ⟨i + 1, rl ++ [z.toNat.toUInt8], v44, rfl, ⟨by omega, by rw [List.length_append, hrl]; rfl, hi.go hi1 hz (by omega) (by omega) (by omega)⟩, A.keep _ (by repeat' constructor), M⟩
    ·
     have hb39' := of_decide_eq_false hb39
     refine sdc A jl hb39 λa A↦?_
     refine sdk (v := bV false) A λa A↦?_
     replace M : Mg w0 w35 (.obj g (rC L (p + n10) ((lg || b11))) :: .obj g30 (.cells (t1.d.cells t1.ts.length).toArray 30) :: .row BY 1 (v) rl.length ((Lib.byteCells rl)) :: ((U8 ++ U) ++ (F9 ++ Z))) := M.bring 1 rfl rfl
     refine qz A rfl rfl rfl (ef rfl rfl) (xu) ?_
     rintro _ w47 ⟨rfl, hp48⟩
     exact .inl ⟨_, rfl, hX _ _ _ _ _ A (.inl ⟨rfl, qrg hd12 (hi.no hi1 hz (by omega)), _, _, (M.call hp48).sub (.cons_cons _ (.cons _ (.cons _ yr)))⟩)⟩
   ·
    have hb38' := of_decide_eq_false hb38
    refine sdc A jo hb38 λa A↦?_
    refine sdk (v := bV false) A λa A↦?_
    refine sdm A λa A↦?_
    iterate 2 refine qf A rfl rfl rfl λa A↦?_
    refine sdk (v := bV false) A λa A↦?_
    replace M : Mg w0 w35 (.obj g (rC L (p + n10) ((lg || b11))) :: .obj g30 (.cells (t1.d.cells t1.ts.length).toArray 30) :: .row BY 1 (v) rl.length ((Lib.byteCells rl)) :: ((U8 ++ U) ++ (F9 ++ Z))) := M.bring 1 rfl rfl
    refine qz A rfl rfl rfl (ef rfl rfl) (xu) ?_
    rintro _ w50 ⟨rfl, hp51⟩
    exact .inl ⟨_, rfl, hX _ _ _ _ _ A (.inl ⟨rfl, qrg hd12 (hi.no hi1 hz (by omega)), _, _, (M.call hp51).sub (.cons_cons _ (.cons _ (.cons _ yr)))⟩)⟩
  ·
   have hb37' := ne_of_beq_false hb37
   refine sdc A qj hb37 λa A↦?_
   refine sdm A λa A↦?_
   iterate 2 refine qf A rfl rfl rfl λa A↦?_
   refine sdk (v := bV false) A λa A↦?_
   refine sdm A λa A↦?_
   iterate 2 refine qf A rfl rfl rfl λa A↦?_
   refine sdk (v := bV false) A λa A↦?_
   replace M : Mg w0 w35 (.obj g (rC L (p + n10) ((lg || b11))) :: .obj g30 (.cells (t1.d.cells t1.ts.length).toArray 30) :: .row BY 1 (v) rl.length ((Lib.byteCells rl)) :: ((U8 ++ U) ++ (F9 ++ Z))) := M.bring 1 rfl rfl
   refine qz A rfl rfl rfl (ef rfl rfl) (xu) ?_
   rintro _ w53 ⟨rfl, hp54⟩
   exact .inl ⟨_, rfl, hX _ _ _ _ _ A (.inl ⟨rfl, qrg hd12 (hi.no hi1 hz (by omega)), _, _, (M.call hp54).sub (.cons_cons _ (.cons _ (.cons _ yr)))⟩)⟩
 ·
  have hb26' := of_decide_eq_false hb26
  refine sdc A jk hb26 λa A↦?_
  refine qa (hK25 _ _ (wsk fun K55 hK55 => wp_cond_false (A.ev rfl) ?_))
  refine wp_exit (hK3 _ _ (wsk fun K56 hK56 => wrl (sdm A λa A↦?_)))
  refine sda A λa A↦?_
  refine qa (hK56 _ _ (wr1 hret A ?_))
  replace M : Mg w0 w22 (.row BY 1 (v) rl.length ((Lib.byteCells rl)) :: .obj g (rC L (p + n10) ((lg || b11))) :: ((U8 ++ U) ++ (F9 ++ Z))) := M.bring 1 rfl rfl
  obtain ⟨ro, rc, R, rfl, hrc, hR, hM9, hRb⟩ := jha M (zx (by simp) hnb)
  refine .inr ⟨ro, rl, rc, R ++ F9, n10, b11, rfl, ⟨zye hd12 (hi.fin (by omega)), by omega, hn14⟩, ⟨fun w9 h9 => hRb w9 (F9 ++ Z) (by rw [List.append_assoc] at h9; exact h9), hrc.1, hrc.2, Ob.app hR hO18⟩, jhb hM9⟩
theorem zyf {a : Ck} {U1 U Y : List Ck} : ((U1 ++ (a :: U)) ++ Y).Perm (a :: ((U1 ++ U) ++ Y)) := by
 rw [List.append_assoc, List.append_assoc]
 exact List.perm_middle
theorem zsc {U1 U F Z : List Ck} : ((U1 ++ U) ++ (F ++ Z)).Perm (U ++ ((U1 ++ F) ++ Z)) := by
 rw [List.append_assoc, List.append_assoc]
 exact List.perm_append_comm_assoc _ _ _
def zyg (so : Option Addr) (ca : Nat) (ts : List Dt) : Dt := .mk ⟨9, 0, zNu, ⟨#[]⟩, none, 0, [], so, ca⟩ ts
theorem jdb (so : Option Addr) (ca : Nat) (ts : List Dt) : (zyg so ca ts).tr = jcj (ts.map Dt.tr) := by unfold zyg jcj; rw [Dt.tr_mk]; rfl
theorem jdc {w0 : World} {e : TypeId} {so : Option Addr} {ca : Nat} {ts : List Dt} {U1 F Z : List Ck} (hI : IR e so ca ts U1) (hts : ∀ t ∈ ts, Lv w0 (F ++ Z) t) : Lv w0 ((U1 ++ F) ++ Z) (zyg so ca ts) := fun w9 h9 => by
 rw [List.append_assoc] at h9
 exact Dt.rd_iff.2 ⟨⟨zdg w9, yx, ⟨fun h => absurd rfl h⟩, Nat.le_refl _, Nat.zero_le _, (show (-9223372036854775808 : Int) ≤ 9 by decide), (show (9 : Int) ≤ 9223372036854775807 by decide), (show (-9223372036854775808 : Int) ≤ 0 by decide), (show (0 : Int) ≤ 9223372036854775807 by decide), (show (0 : Nat) ≤ 9223372036854775807 by decide)⟩, hI.cap.1, hI.cap.2, hI.rt h9 (fun c hc => List.mem_append_left _ hc), fun t ht => hts t ht w9 (h9.sub (List.sublist_append_right _ _))⟩
def zyh (ro : Option Addr) (rc : Nat) (rl : List UInt8) : Dt := .mk ⟨7, 0, zNu, ⟨#[]⟩, ro, rc, rl, none, 0⟩ []
theorem jdd (ro : Option Addr) (rc : Nat) (rl : List UInt8) : (zyh ro rc rl).tr = zrf rl := by unfold zyh zrf; rw [Dt.tr_mk]; rfl
theorem jde {w0 : World} {Z : List Ck} {ro : Option Addr} {rc : Nat} {rl : List UInt8} (h : ∀ w9, Mg w0 w9 Z → Rb w9 ro rl) (h1 : rl.length ≤ rc) (h2 : rc ≤ 9223372036854775807) : Lv w0 Z (zyh ro rc rl) := fun w9 h9 =>
 Dt.rd_iff.2 ⟨⟨zdg w9, yx, h w9 h9, h1, h2, (show (-9223372036854775808 : Int) ≤ 7 by decide), (show (7 : Int) ≤ 9223372036854775807 by decide), (show (-9223372036854775808 : Int) ≤ 0 by decide), (show (0 : Int) ≤ 9223372036854775807 by decide), (show (0 : Nat) ≤ 9223372036854775807 by decide)⟩, Nat.le_refl _, Nat.zero_le _, fun h => absurd rfl h, fun t h => by cases h⟩
theorem qrh {f : Nat} {ec : UInt8} {l : List UInt8} : ((lst f ec true l).map fun r => (yz r.1 r.2.1, r.2.2.1 + 1, r.2.2.2)) = (lsX f ec l).map fun r => (r.1, r.2.1 + 1, r.2.2) := by unfold lsX; rw [Option.map_map]; rfl
theorem zsd {f : Nat} {ec : UInt8} {l : List UInt8} : ((itm f ec l).bind fun r => (byX r.1).map fun s => (zrf s, r.2.1 + 5, r.2.2)) = (byF f ec l).map fun r => (zrf r.1, r.2.1 + 5, r.2.2) := by
 unfold byF
 cases itm f ec l with
 | none => rfl
 | some r =>
  show (byX r.1).map _ = ((byX r.1).map _).map _
  rw [Option.map_map]; rfl
theorem zkh {f0 : Nat} (ih : ∀ f, f < f0 → SkC f ∧ DaC f) : DaC f0 := by
 intro w0 w g p lg L U Z hN hU hZ hp hl hf0 hM0
 obtain ⟨f, rfl⟩ : ∃ f, f0 = f + 1 := ⟨f0 - 1, by omega⟩
 have hLi : LiC f := zsb (fun f1 h1 => ih f1 (by omega))
 have hIt : ItC f := qod (fun f1 h1 => ih f1 (by omega))
 have hBy : ByC f := zkg (fun f1 h1 => ih f1 (by omega))
 have hSk : SkC f := (ih f (by omega)).1
 have hDa : DaC f := (ih f (by omega)).2
 have hT := hN.tb
 have M : Mg w0 w (.obj g (rC L p lg) :: (U ++ Z)) := hM0
 refine jq (l := [(0, pA g 0)]) Tryz.func22 rfl Tryz.ntmps22 rfl rfl ?_
 intro Q hret hnorm hP hX a A
 refine wsk fun K1 hK1 => wrl (vv (vs := zD) (t := 30) A M rfl rfl rfl pg (ql (z := .agg zD.toArray) (by kernel_rfl) rfl) (by decide) ?_)
 intro g2 w3 M a A
 refine qa (hK1 _ _ (wsk fun K4 hK4 => wp_block (wsk fun K5 hK5 => wrl (sdm A λa A↦?_))))
 rcases tf (Lib.hasPrefix (L.drop p) [40]) with hb6 | hb6
 ·
  replace M : Mg w0 w3 (.obj g (rC L p lg) :: .obj g2 zC :: (U ++ Z)) := M.bring 1 rfl rfl
  have htl8 : 1 ≤ (L.drop p).length := (List.isPrefixOf_iff_prefix.1 hb6).length_le
  rw [List.length_drop] at htl8
  refine sct A (ef rfl rfl) (xy (p := p) (L := L) (T := (.obj g2 zC :: (U ++ Z))) (by omega) (by omega) hb6 M) ?_
  rintro _ w9 ⟨rfl, hM7⟩
  replace M : Mg w0 w9 (.obj g (rC L (p + 1) lg) :: .obj g2 zC :: (U ++ Z)) := hM7
  refine ⟨_, rfl, ?_⟩
  intro a A
  refine sda A λa A↦?_
  refine qa (hK5 _ _ (ct A ?_))
  refine wsk fun K10 hK10 => wrl (sdm A λa A↦?_)
  refine qz A rfl rfl rfl (ef rfl rfl) (hLi (U := (.obj g2 zC :: U)) (Z := Z) hN (Cu.cons rfl hU) hZ (by omega) (by omega) (by omega) M) ?_
  rintro _ w21 (⟨rfl, hp22⟩ | ⟨t11, F12, n13, b14, rfl, ⟨hd15, hl16, hn17⟩, ⟨hL18, hO19⟩, hM20⟩)
  ·
   exact .inl ⟨_, rfl, hX _ _ _ _ _ A (.inl ⟨rfl, by rw [dat, if_pos hb6]; rw [qrh, List.drop_drop, hp22.1]; rfl, hp22.2.elim fun q9 h9 => h9.elim fun l9 h9 => ⟨q9, l9, h9.sub (cc (cn (.refl _)))⟩⟩)⟩
  replace M : Mg w0 w21 (.obj g (rC L (p + 1 + n13) ((lg || b14))) :: .obj g2 zC :: (U ++ (F12 ++ Z))) := hM20
  refine .inr ⟨_, rfl, ?_⟩
  intro a A
  refine zp (L' := (.obj g (rC L (p + 1 + n13) ((lg || b14))) :: .obj g2 (.cells (t11.d.cells t11.ts.length).toArray 30) :: (U ++ (F12 ++ Z)))) A M rfl rfl (ze rfl rfl rfl (by kernel_rfl) M 1 rfl rfl rfl) 1 rfl rfl rfl ?_
  intro w23 M
  refine qa (hK10 _ _ (wp_ret (hret _ _ (en1 A rfl (zu M xz rfl 1 rfl (cs := [iV t11.d.k, iV t11.d.n, bV t11.d.y.q.b1, .slice t11.d.y.o1 t11.d.y.q.t1.length t11.d.y.c1, .slice t11.d.y.o2 t11.d.y.q.q1.length t11.d.y.c2, bV t11.d.y.q.b2, .slice t11.d.y.o3 t11.d.y.q.t2.length t11.d.y.c3, .slice t11.d.y.o4 t11.d.y.q.q2.length t11.d.y.c4, .string t11.d.s, .slice t11.d.ro t11.d.rl.length t11.d.rc, .slice t11.d.lo t11.ts.length t11.d.lc]) rfl rfl) ?_))))
  refine .inr ⟨t11, F12, n13 + 1, b14, rfl, ⟨by rw [dat, if_pos hb6]; rw [qrh, List.drop_drop, hd15]; rfl, by omega, by omega⟩, ⟨hL18, hO19⟩, ?_⟩
  rw [show p + (n13 + 1) = p + 1 + n13 by omega]
  exact M.sub (cc (cn (.refl _)))
 ·
  replace M : Mg w0 w3 (.obj g (rC L p lg) :: .obj g2 zC :: (U ++ Z)) := M.bring 1 rfl rfl
  refine sct A (ef rfl rfl) (vg (p := p) (L := L) (T := (.obj g2 zC :: (U ++ Z))) (by omega) (by omega) hb6 M) ?_
  rintro _ w25 ⟨rfl, hM24⟩
  replace M : Mg w0 w25 (.obj g (rC L p lg) :: .obj g2 zC :: (U ++ Z)) := hM24
  refine ⟨_, rfl, ?_⟩
  intro a A
  refine sda A λa A↦?_
  refine qa (hK5 _ _ (cf A ?_))
  refine wsk fun K26 hK26 => wrl (sdm A λa A↦?_)
  rcases tf (Lib.hasPrefix (L.drop p) [91]) with hb27 | hb27
  ·
   have htl29 : 1 ≤ (L.drop p).length := (List.isPrefixOf_iff_prefix.1 hb27).length_le
   rw [List.length_drop] at htl29
   refine sct A (ef rfl rfl) (xy (p := p) (L := L) (T := (.obj g2 zC :: (U ++ Z))) (by omega) (by omega) hb27 M) ?_
   rintro _ w30 ⟨rfl, hM28⟩
   replace M : Mg w0 w30 (.obj g (rC L (p + 1) lg) :: .obj g2 zC :: (U ++ Z)) := hM28
   refine ⟨_, rfl, ?_⟩
   intro a A
   refine sda A λa A↦?_
   refine qa (hK26 _ _ (ct A ?_))
   refine wsk fun K31 hK31 => wrl (sdm A λa A↦?_)
   refine qz A rfl rfl rfl (ef rfl rfl) (hLi (U := (.obj g2 zC :: U)) (Z := Z) hN (Cu.cons rfl hU) hZ (by omega) (by omega) (by omega) M) ?_
   rintro _ w42 (⟨rfl, hp43⟩ | ⟨t32, F33, n34, b35, rfl, ⟨hd36, hl37, hn38⟩, ⟨hL39, hO40⟩, hM41⟩)
   ·
    exact .inl ⟨_, rfl, hX _ _ _ _ _ A (.inl ⟨rfl, by rw [dat, if_neg (by rw [hb6]; decide), if_pos hb27]; rw [qrh, List.drop_drop, hp43.1]; rfl, hp43.2.elim fun q9 h9 => h9.elim fun l9 h9 => ⟨q9, l9, h9.sub (cc (cn (.refl _)))⟩⟩)⟩
   replace M : Mg w0 w42 (.obj g (rC L (p + 1 + n34) ((lg || b35))) :: .obj g2 zC :: (U ++ (F33 ++ Z))) := hM41
   refine .inr ⟨_, rfl, ?_⟩
   intro a A
   refine zp (L' := (.obj g (rC L (p + 1 + n34) ((lg || b35))) :: .obj g2 (.cells (t32.d.cells t32.ts.length).toArray 30) :: (U ++ (F33 ++ Z)))) A M rfl rfl (ze rfl rfl rfl (by kernel_rfl) M 1 rfl rfl rfl) 1 rfl rfl rfl ?_
   intro w44 M
   refine qa (hK31 _ _ (wp_ret (hret _ _ (en1 A rfl (zu M xz rfl 1 rfl (cs := [iV t32.d.k, iV t32.d.n, bV t32.d.y.q.b1, .slice t32.d.y.o1 t32.d.y.q.t1.length t32.d.y.c1, .slice t32.d.y.o2 t32.d.y.q.q1.length t32.d.y.c2, bV t32.d.y.q.b2, .slice t32.d.y.o3 t32.d.y.q.t2.length t32.d.y.c3, .slice t32.d.y.o4 t32.d.y.q.q2.length t32.d.y.c4, .string t32.d.s, .slice t32.d.ro t32.d.rl.length t32.d.rc, .slice t32.d.lo t32.ts.length t32.d.lc]) rfl rfl) ?_))))
   refine .inr ⟨t32, F33, n34 + 1, b35, rfl, ⟨by rw [dat, if_neg (by rw [hb6]; decide), if_pos hb27]; rw [qrh, List.drop_drop, hd36]; rfl, by omega, by omega⟩, ⟨hL39, hO40⟩, ?_⟩
   rw [show p + (n34 + 1) = p + 1 + n34 by omega]
   exact M.sub (cc (cn (.refl _)))
  ·
   refine sct A (ef rfl rfl) (vg (p := p) (L := L) (T := (.obj g2 zC :: (U ++ Z))) (by omega) (by omega) hb27 M) ?_
   rintro _ w46 ⟨rfl, hM45⟩
   replace M : Mg w0 w46 (.obj g (rC L p lg) :: .obj g2 zC :: (U ++ Z)) := hM45
   refine ⟨_, rfl, ?_⟩
   intro a A
   refine sda A λa A↦?_
   refine qa (hK26 _ _ (cf A ?_))
   refine wsk fun K47 hK47 => wrl (sdm A λa A↦?_)
   rcases tf (Lib.hasPrefix (L.drop p) [35, 40]) with hb48 | hb48
   ·
    have htl50 : 2 ≤ (L.drop p).length := (List.isPrefixOf_iff_prefix.1 hb48).length_le
    rw [List.length_drop] at htl50
    refine sct A (ef rfl rfl) (xy (p := p) (L := L) (T := (.obj g2 zC :: (U ++ Z))) (by omega) (by omega) hb48 M) ?_
    rintro _ w51 ⟨rfl, hM49⟩
    replace M : Mg w0 w51 (.obj g (rC L (p + 2) lg) :: .obj g2 zC :: (U ++ Z)) := hM49
    refine ⟨_, rfl, ?_⟩
    intro a A
    refine sda A λa A↦?_
    refine qa (hK47 _ _ (ct A ?_))
    refine wsk fun K52 hK52 => wrl (sdm A λa A↦?_)
    refine qz A rfl rfl rfl (ef rfl rfl) (hIt (U := (.obj g2 zC :: U)) (Z := Z) hN (Cu.cons rfl hU) hZ (by omega) (by omega) (by omega) M) ?_
    rintro _ w68 (⟨rfl, hp69⟩ | ⟨so53, ca54, ts, U56, F57, n58, b59, rfl, ⟨hd60, hl61, hn62, hk63⟩, ⟨hI64, hts65, hO66⟩, hM67⟩)
    ·
     exact .inl ⟨_, rfl, hX _ _ _ _ _ A (.inl ⟨rfl, by rw [dat, if_neg (by rw [hb6]; decide), if_neg (by rw [hb27]; decide), if_pos hb48]; rw [List.drop_drop, hp69.1]; rfl, hp69.2.elim fun q9 h9 => h9.elim fun l9 h9 => ⟨q9, l9, h9.sub (cc (cn (.refl _)))⟩⟩)⟩
    replace M : Mg w0 w68 (.obj g (rC L (p + 2 + n58) ((lg || b59))) :: .obj g2 zC :: ((U56 ++ U) ++ (F57 ++ Z))) := (hM67.perm (List.Perm.cons _ zyf))
    refine .inr ⟨_, rfl, ?_⟩
    intro a A
    refine sdo (v := .agg #[iV 9, iV 0, bV false, .slice none 0 0, .slice none 0 0, bV false, .slice none 0 0, .slice none 0 0, .string (⟨#[]⟩), .slice none 0 0, .slice so53 ts.length ca54]) A (zb rfl (fun w => by kernel_rfl)) λa A↦?_
    refine zp (L' := (.obj g (rC L (p + 2 + n58) ((lg || b59))) :: .obj g2 (.cells #[iV 9, iV 0, bV false, .slice none 0 0, .slice none 0 0, bV false, .slice none 0 0, .slice none 0 0, .string (⟨#[]⟩), .slice none 0 0, .slice so53 ts.length ca54] 30) :: ((U56 ++ U) ++ (F57 ++ Z)))) A M rfl rfl (ze rfl rfl rfl (by kernel_rfl) M 1 rfl rfl rfl) 1 rfl rfl rfl ?_
    intro w70 M
    refine qa (hK52 _ _ (wp_ret (hret _ _ (en1 A rfl (zu M xz rfl 1 rfl (cs := [iV 9, iV 0, bV false, .slice none 0 0, .slice none 0 0, bV false, .slice none 0 0, .slice none 0 0, .string (⟨#[]⟩), .slice none 0 0, .slice so53 ts.length ca54]) rfl rfl) ?_))))
    refine .inr ⟨zyg so53 ca54 ts, U56 ++ F57, n58 + 2, b59, rfl, ⟨by rw [dat, if_neg (by rw [hb6]; decide), if_neg (by rw [hb27]; decide), if_pos hb48]; rw [List.drop_drop, hd60, jdb]; rfl, by omega, by omega⟩, ⟨jdc hI64 hts65, Ob.app hI64.cu.ob hO66⟩, ?_⟩
    rw [show p + (n58 + 2) = p + 2 + n58 by omega]
    exact (M.sub (cc (cn (.refl _)))).perm (.cons _ zsc)
   ·
    refine sct A (ef rfl rfl) (vg (p := p) (L := L) (T := (.obj g2 zC :: (U ++ Z))) (by omega) (by omega) hb48 M) ?_
    rintro _ w72 ⟨rfl, hM71⟩
    replace M : Mg w0 w72 (.obj g (rC L p lg) :: .obj g2 zC :: (U ++ Z)) := hM71
    refine ⟨_, rfl, ?_⟩
    intro a A
    refine sda A λa A↦?_
    refine qa (hK47 _ _ (cf A ?_))
    refine wsk fun K73 hK73 => wrl (sdm A λa A↦?_)
    rcases tf (Lib.hasPrefix (L.drop p) [35, 118, 117, 56, 40]) with hb74 | hb74
    ·
     have htl76 : 5 ≤ (L.drop p).length := (List.isPrefixOf_iff_prefix.1 hb74).length_le
     rw [List.length_drop] at htl76
     refine sct A (ef rfl rfl) (xy (p := p) (L := L) (T := (.obj g2 zC :: (U ++ Z))) (by omega) (by omega) hb74 M) ?_
     rintro _ w77 ⟨rfl, hM75⟩
     replace M : Mg w0 w77 (.obj g (rC L (p + 5) lg) :: .obj g2 zC :: (U ++ Z)) := hM75
     refine ⟨_, rfl, ?_⟩
     intro a A
     refine sda A λa A↦?_
     refine qa (hK73 _ _ (ct A ?_))
     refine wsk fun K78 hK78 => wrl (sdm A λa A↦?_)
     refine qz A rfl rfl rfl (ef rfl rfl) (hBy (U := (.obj g2 zC :: U)) (Z := Z) hN (Cu.cons rfl hU) hZ (by omega) (by omega) (by omega) M) ?_
     rintro _ w93 (⟨rfl, hp94⟩ | ⟨ro79, rl80, rc81, F82, n83, b84, rfl, ⟨hd85, hl86, hn87⟩, ⟨hR88, hc89, hc90, hO91⟩, hM92⟩)
     ·
      exact .inl ⟨_, rfl, hX _ _ _ _ _ A (.inl ⟨rfl, by rw [dat, if_neg (by rw [hb6]; decide), if_neg (by rw [hb27]; decide), if_neg (by rw [hb48]; decide), if_pos hb74]; rw [zsd, List.drop_drop, hp94.1]; rfl, hp94.2.elim fun q9 h9 => h9.elim fun l9 h9 => ⟨q9, l9, h9.sub (cc (cn (.refl _)))⟩⟩)⟩
     replace M : Mg w0 w93 (.obj g (rC L (p + 5 + n83) ((lg || b84))) :: .obj g2 zC :: (U ++ (F82 ++ Z))) := hM92
     refine .inr ⟨_, rfl, ?_⟩
     intro a A
     refine sdo (v := .agg #[iV 7, iV 0, bV false, .slice none 0 0, .slice none 0 0, bV false, .slice none 0 0, .slice none 0 0, .string (⟨#[]⟩), .slice ro79 rl80.length rc81, .slice none 0 0]) A (zb rfl (fun w => by kernel_rfl)) λa A↦?_
     refine zp (L' := (.obj g (rC L (p + 5 + n83) ((lg || b84))) :: .obj g2 (.cells #[iV 7, iV 0, bV false, .slice none 0 0, .slice none 0 0, bV false, .slice none 0 0, .slice none 0 0, .string (⟨#[]⟩), .slice ro79 rl80.length rc81, .slice none 0 0] 30) :: (U ++ (F82 ++ Z)))) A M rfl rfl (ze rfl rfl rfl (by kernel_rfl) M 1 rfl rfl rfl) 1 rfl rfl rfl ?_
     intro w95 M
     refine qa (hK78 _ _ (wp_ret (hret _ _ (en1 A rfl (zu M xz rfl 1 rfl (cs := [iV 7, iV 0, bV false, .slice none 0 0, .slice none 0 0, bV false, .slice none 0 0, .slice none 0 0, .string (⟨#[]⟩), .slice ro79 rl80.length rc81, .slice none 0 0]) rfl rfl) ?_))))
     refine .inr ⟨zyh ro79 rc81 rl80, F82, n83 + 5, b84, rfl, ⟨by rw [dat, if_neg (by rw [hb6]; decide), if_neg (by rw [hb27]; decide), if_neg (by rw [hb48]; decide), if_pos hb74]; rw [zsd, List.drop_drop, hd85, jdd]; rfl, by omega, by omega⟩, ⟨jde hR88 hc89 hc90, hO91⟩, ?_⟩
     rw [show p + (n83 + 5) = p + 5 + n83 by omega]
     exact M.sub (cc (cn (.refl _)))
    ·
     refine sct A (ef rfl rfl) (vg (p := p) (L := L) (T := (.obj g2 zC :: (U ++ Z))) (by omega) (by omega) hb74 M) ?_
     rintro _ w97 ⟨rfl, hM96⟩
     replace M : Mg w0 w97 (.obj g (rC L p lg) :: .obj g2 zC :: (U ++ Z)) := hM96
     refine ⟨_, rfl, ?_⟩
     intro a A
     refine sda A λa A↦?_
     refine qa (hK73 _ _ (cf A ?_))
     refine wsk fun K98 hK98 => wrl (sdm A λa A↦?_)
     rcases tf (Lib.hasPrefix (L.drop p) [39]) with hb99 | hb99
     ·
      have htl101 : 1 ≤ (L.drop p).length := (List.isPrefixOf_iff_prefix.1 hb99).length_le
      rw [List.length_drop] at htl101
      refine sct A (ef rfl rfl) (xy (p := p) (L := L) (T := (.obj g2 zC :: (U ++ Z))) (by omega) (by omega) hb99 M) ?_
      rintro _ w102 ⟨rfl, hM100⟩
      replace M : Mg w0 w102 (.obj g (rC L (p + 1) lg) :: .obj g2 zC :: (U ++ Z)) := hM100
      refine ⟨_, rfl, ?_⟩
      intro a A
      refine sda A λa A↦?_
      refine qa (hK98 _ _ (ct A ?_))
      refine wsk fun K103 hK103 => wrl (sdm A λa A↦?_)
      refine qz A rfl rfl rfl (ef rfl rfl) (hSk (U := (.obj g2 zC :: U)) (Z := Z) hN (Cu.cons rfl hU) hZ (by omega) (by omega) (by omega) M) ?_
      rintro _ w108 (⟨rfl, hp109⟩ | ⟨n104, rfl, ⟨hs105, hl106⟩, hM107⟩)
      ·
       exact .inl ⟨_, rfl, hX _ _ _ _ _ A (.inl ⟨rfl, by rw [dat, if_neg (by rw [hb6]; decide), if_neg (by rw [hb27]; decide), if_neg (by rw [hb48]; decide), if_neg (by rw [hb74]; decide), if_pos hb99]; rw [List.drop_drop, hp109.1]; rfl, hp109.2.elim fun q9 h9 => h9.elim fun l9 h9 => ⟨q9, l9, h9.sub (cc (cn (.refl _)))⟩⟩)⟩
      replace M : Mg w0 w108 (.obj g (rC L (p + 1 + n104) lg) :: .obj g2 zC :: (U ++ Z)) := hM107
      refine .inr ⟨_, rfl, ?_⟩
      intro a A
      refine qa (hK103 _ _ (wsk fun K110 hK110 => wrl (sdm A λa A↦?_)))
      refine qz A rfl rfl rfl (ef rfl rfl) (hDa (U := (.obj g2 zC :: U)) (Z := Z) hN (Cu.cons rfl hU) hZ (by omega) (by omega) (by omega) M) ?_
      rintro _ w121 (⟨rfl, hp122⟩ | ⟨t111, F112, n113, b114, rfl, ⟨hd115, hl116, hn117⟩, ⟨hL118, hO119⟩, hM120⟩)
      ·
       exact .inl ⟨_, rfl, hX _ _ _ _ _ A (.inl ⟨rfl, by rw [dat, if_neg (by rw [hb6]; decide), if_neg (by rw [hb27]; decide), if_neg (by rw [hb48]; decide), if_neg (by rw [hb74]; decide), if_pos hb99]; rw [List.drop_drop, hs105, Option.bind_some, List.drop_drop, hp122.1]; rfl, hp122.2.elim fun q9 h9 => h9.elim fun l9 h9 => ⟨q9, l9, h9.sub (cc (cn (.refl _)))⟩⟩)⟩
      replace M : Mg w0 w121 (.obj g (rC L (p + 1 + n104 + n113) ((lg || b114))) :: .obj g2 zC :: (U ++ (F112 ++ Z))) := hM120
      refine .inr ⟨_, rfl, ?_⟩
      intro a A
      refine sct A (ef rfl rfl) (zdi (X := (.obj g (rC L (p + 1 + n104 + n113) ((lg || b114))) :: .obj g2 zC :: U)) (Y := (F112 ++ Z)) (t := t111) (zx (by simp) (zx (by simp) hU.ob.nob)) (Ob.app hO119 hZ).nob hL118 M) ?_
      rintro _ w124 ⟨t2, F2, rfl, htt2, ⟨hL2, hF2⟩, hM123⟩
      replace M : Mg w0 w124 (.obj g (rC L (p + 1 + n104 + n113) ((lg || b114))) :: .obj g2 zC :: (U ++ (F2 ++ (F112 ++ Z)))) := hM123
      refine ⟨_, rfl, ?_⟩
      intro a A
      refine zp (L' := (.obj g (rC L (p + 1 + n104 + n113) ((lg || b114))) :: .obj g2 (.cells (t2.d.cells t2.ts.length).toArray 30) :: (U ++ (F2 ++ (F112 ++ Z))))) A M rfl rfl (ze rfl rfl rfl (by kernel_rfl) M 1 rfl rfl rfl) 1 rfl rfl rfl ?_
      intro w125 M
      refine qa (hK110 _ _ (wp_ret (hret _ _ (en1 A rfl (zu M xz rfl 1 rfl (cs := [iV t2.d.k, iV t2.d.n, bV t2.d.y.q.b1, .slice t2.d.y.o1 t2.d.y.q.t1.length t2.d.y.c1, .slice t2.d.y.o2 t2.d.y.q.q1.length t2.d.y.c2, bV t2.d.y.q.b2, .slice t2.d.y.o3 t2.d.y.q.t2.length t2.d.y.c3, .slice t2.d.y.o4 t2.d.y.q.q2.length t2.d.y.c4, .string t2.d.s, .slice t2.d.ro t2.d.rl.length t2.d.rc, .slice t2.d.lo t2.ts.length t2.d.lc]) rfl rfl) ?_))))
      refine .inr ⟨t2, F2 ++ F112, 1 + n104 + n113, b114, rfl, ⟨by rw [dat, if_neg (by rw [hb6]; decide), if_neg (by rw [hb27]; decide), if_neg (by rw [hb48]; decide), if_neg (by rw [hb74]; decide), if_pos hb99]; rw [List.drop_drop, hs105, Option.bind_some, List.drop_drop, hd115, htt2]; rfl, by omega, by omega⟩, ⟨by rw [List.append_assoc]; exact hL2, Ob.app hF2 hO119⟩, ?_⟩
      rw [show p + (1 + n104 + n113) = p + 1 + n104 + n113 by omega, List.append_assoc]
      exact M.sub (cc (cn (.refl _)))
     ·
      refine sct A (ef rfl rfl) (vg (p := p) (L := L) (T := (.obj g2 zC :: (U ++ Z))) (by omega) (by omega) hb99 M) ?_
      rintro _ w127 ⟨rfl, hM126⟩
      replace M : Mg w0 w127 (.obj g (rC L p lg) :: .obj g2 zC :: (U ++ Z)) := hM126
      refine ⟨_, rfl, ?_⟩
      intro a A
      refine sda A λa A↦?_
      refine qa (hK98 _ _ (cf A ?_))
      refine wsk fun K128 hK128 => wrl (sdm A λa A↦?_)
      rcases tf (Lib.hasPrefix (L.drop p) [34]) with hb129 | hb129
      ·
       have htl131 : 1 ≤ (L.drop p).length := (List.isPrefixOf_iff_prefix.1 hb129).length_le
       rw [List.length_drop] at htl131
       refine sct A (ef rfl rfl) (xy (p := p) (L := L) (T := (.obj g2 zC :: (U ++ Z))) (by omega) (by omega) hb129 M) ?_
       rintro _ w132 ⟨rfl, hM130⟩
       replace M : Mg w0 w132 (.obj g (rC L (p + 1) lg) :: .obj g2 zC :: (U ++ Z)) := hM130
       refine ⟨_, rfl, ?_⟩
       intro a A
       refine sda A λa A↦?_
       refine qa (hK128 _ _ (ct A ?_))
       refine wsk fun K133 hK133 => wrl (sdm A λa A↦?_)
       refine qz A rfl rfl rfl (ef rfl rfl) (qmg (p := p + 1) (L := L) (T := (.obj g2 zC :: (U ++ Z))) hN (Ob.cons (Ob.app hU.ob hZ)) (by omega) (by omega) M) ?_
       rintro _ w135 (⟨rfl, hp136⟩ | ⟨s9, n9, rfl, ⟨hq9, hql, hq1, hqs⟩, hM134⟩)
       ·
        exact .inl ⟨_, rfl, hX _ _ _ _ _ A (.inl ⟨rfl, by rw [dat, if_neg (by rw [hb6]; decide), if_neg (by rw [hb27]; decide), if_neg (by rw [hb48]; decide), if_neg (by rw [hb74]; decide), if_neg (by rw [hb99]; decide), if_pos hb129]; rw [List.drop_drop, hp136.1]; rfl, hp136.2.elim fun q9 h9 => ⟨q9, _, h9.2.sub (cc (cn (.refl _)))⟩⟩)⟩
       replace M : Mg w0 w135 (.obj g (rC L (p + 1 + n9) lg) :: .obj g2 zC :: (U ++ Z)) := hM134
       refine .inr ⟨_, rfl, ?_⟩
       intro a A
       refine sdo (v := .agg #[iV 5, iV 0, bV false, .slice none 0 0, .slice none 0 0, bV false, .slice none 0 0, .slice none 0 0, .string ((tx s9)), .slice none 0 0, .slice none 0 0]) A (zb rfl (fun w => by kernel_rfl)) λa A↦?_
       refine zp (L' := (.obj g (rC L (p + 1 + n9) lg) :: .obj g2 (.cells #[iV 5, iV 0, bV false, .slice none 0 0, .slice none 0 0, bV false, .slice none 0 0, .slice none 0 0, .string ((tx s9)), .slice none 0 0, .slice none 0 0] 30) :: (U ++ Z))) A M rfl rfl (ze rfl rfl rfl (by kernel_rfl) M 1 rfl rfl rfl) 1 rfl rfl rfl ?_
       intro w137 M
       refine qa (hK133 _ _ (wp_ret (hret _ _ (en1 A rfl (zu M xz rfl 1 rfl (cs := [iV 5, iV 0, bV false, .slice none 0 0, .slice none 0 0, bV false, .slice none 0 0, .slice none 0 0, .string ((tx s9)), .slice none 0 0, .slice none 0 0]) rfl rfl) ?_))))
       refine .inr ⟨lfD 5 0 (tx s9), [], 1 + n9, false, rfl, ⟨by rw [dat, if_neg (by rw [hb6]; decide), if_neg (by rw [hb27]; decide), if_neg (by rw [hb48]; decide), if_neg (by rw [hb74]; decide), if_neg (by rw [hb99]; decide), if_pos hb129]; rw [List.drop_drop, hq9, qhi]; rfl, by omega, by omega⟩, ⟨qlf (by decide) (by decide) (by decide) (by decide) (by rw [jy]; omega), Ob.nil⟩, ?_⟩
       rw [show p + (1 + n9) = p + 1 + n9 by omega, Bool.or_false]
       exact M.sub (cc (cn (.refl _)))
      ·
       refine sct A (ef rfl rfl) (vg (p := p) (L := L) (T := (.obj g2 zC :: (U ++ Z))) (by omega) (by omega) hb129 M) ?_
       rintro _ w139 ⟨rfl, hM138⟩
       replace M : Mg w0 w139 (.obj g (rC L p lg) :: .obj g2 zC :: (U ++ Z)) := hM138
       refine ⟨_, rfl, ?_⟩
       intro a A
       refine sda A λa A↦?_
       refine qa (hK128 _ _ (cf A ?_))
       refine wp_skip (hK4 _ _ (wsk fun K140 hK140 => wrl (sdm A λa A↦?_)))
       refine qz A rfl rfl rfl (ef rfl rfl) (zra (U := (.obj g2 zC :: U)) (Z := Z) hN (Cu.cons rfl hU) hZ (by omega) (by omega) M) ?_
       rintro _ w142 (⟨rfl, hp143⟩ | ⟨t7, F7, n7, b7, rfl, ⟨hd7, hl7, hn7⟩, ⟨hL7, hO7⟩, hM141⟩)
       ·
        exact .inl ⟨_, rfl, hX _ _ _ _ _ A (.inl ⟨rfl, by rw [dat, if_neg (by rw [hb6]; decide), if_neg (by rw [hb27]; decide), if_neg (by rw [hb48]; decide), if_neg (by rw [hb74]; decide), if_neg (by rw [hb99]; decide), if_neg (by rw [hb129]; decide)]; exact hp143.1, hp143.2.elim fun q9 h9 => h9.elim fun l9 h9 => ⟨q9, l9, h9.2.sub (cc (cn (.refl _)))⟩⟩)⟩
       replace M : Mg w0 w142 (.obj g (rC L (p + n7) ((lg || b7))) :: .obj g2 zC :: (U ++ (F7 ++ Z))) := hM141
       refine .inr ⟨_, rfl, ?_⟩
       intro a A
       refine zp (L' := (.obj g (rC L (p + n7) ((lg || b7))) :: .obj g2 (.cells (t7.d.cells t7.ts.length).toArray 30) :: (U ++ (F7 ++ Z)))) A M rfl rfl (ze rfl rfl rfl (by kernel_rfl) M 1 rfl rfl rfl) 1 rfl rfl rfl ?_
       intro w144 M
       refine qa (hK140 _ _ (wp_ret (hret _ _ (en1 A rfl (zu M xz rfl 1 rfl (cs := [iV t7.d.k, iV t7.d.n, bV t7.d.y.q.b1, .slice t7.d.y.o1 t7.d.y.q.t1.length t7.d.y.c1, .slice t7.d.y.o2 t7.d.y.q.q1.length t7.d.y.c2, bV t7.d.y.q.b2, .slice t7.d.y.o3 t7.d.y.q.t2.length t7.d.y.c3, .slice t7.d.y.o4 t7.d.y.q.q2.length t7.d.y.c4, .string t7.d.s, .slice t7.d.ro t7.d.rl.length t7.d.rc, .slice t7.d.lo t7.ts.length t7.d.lc]) rfl rfl) ?_))))
       exact .inr ⟨t7, F7, n7, b7, rfl, ⟨by rw [dat, if_neg (by rw [hb6]; decide), if_neg (by rw [hb27]; decide), if_neg (by rw [hb48]; decide), if_neg (by rw [hb74]; decide), if_neg (by rw [hb99]; decide), if_neg (by rw [hb129]; decide)]; exact hd7, by omega, hn7⟩, ⟨hL7, hO7⟩, M.sub (cc (cn (.refl _)))⟩
theorem qxg : ∀ f, SkC f ∧ DaC f := fun f => by
 induction f using Nat.strongRecOn with
 | ind f ih => exact ⟨zrj ih, zkh ih⟩
structure Sf (ds : List Deferred) (a : Act) (n : Nat) (l : List (Nat × Value)) : Prop where
 sl : Sl { a with defers := [] } n l
 df : a.defers = ds
section
variable {P : Program} {ops : List Oper} {Q : Exit → Act → World → Prop} {a : Act} {w w' : World} {n : Nat} {l : List (Nat × Value)} {o : Oper} {v : Value} {rest : List Oper} {ds : List Deferred}
theorem Sf.ev (h : Sf ds a n l) {x : Operand} {v : Value} (hx : ev l x = some v) : a.eval x = v := h.sl.ev hx
theorem Sf.put (h : Sf ds a n l) {d : Nat} (hd : Nat.blt d n = true) (v : Value) : Sf ds (a.put (some d) v) n ((d, v) :: l) := ⟨h.sl.put hd v, h.df⟩
theorem Sf.keep (h : Sf ds a n l) (l' : List (Nat × Value)) (hs : AllIn l l') : Sf ds a n l' := ⟨h.sl.keep l' hs, h.df⟩
theorem Sf.wanted (h : Sf ds a n l) (hp : zk l ops o = true) : Region.wanted o (yielded ops.toArray a.tmps) = true := h.sl.wanted hp
theorem Sf.unwanted (h : Sf ds a n l) (hp : ux l ops o = true) : Region.wanted o (yielded ops.toArray a.tmps) = false := h.sl.unwanted hp
theorem jp (A : Sf ds a n l) (hg : zk l ops o = true) {d : Nat} (hdst : o.dst = some d) (hd : Nat.blt d n = true) (he : Does P l o w v w')
  (hk : ∀ a', Sf ds a' n ((d, v) :: l) → wpList P ops.toArray Q rest a' w') : wpList P ops.toArray Q (o :: rest) a w := by
 unfold wpList
 rw [if_pos (A.wanted hg)]
 refine .inl ?_
 unfold Oper.wp
 rw [he a.eval (fun x u hx => A.ev hx), Oper.upon_value, hdst]
 exact hk _ (A.put hd v)
theorem zse (A : Sf ds a n l) (hg : zk l ops o = true) (hdst : o.dst = none) (he : Sets P l o w w')
  (hk : wpList P ops.toArray Q rest a w') : wpList P ops.toArray Q (o :: rest) a w := by
 unfold wpList
 rw [if_pos (A.wanted hg)]
 refine .inl ?_
 unfold Oper.wp
 rw [he a.eval (fun x u hx => A.ev hx), Oper.upon_skip, hdst]
 exact hk
theorem zki (A : Sf ds a n l) (hg : ux l ops o = true) {d : Nat} (hdst : o.dst = some d) (hd : Nat.blt d n = true)
  (hk : ∀ a', Sf ds a' n ((d, undef) :: l) → wpList P ops.toArray Q rest a' w) : wpList P ops.toArray Q (o :: rest) a w := by
 unfold wpList
 rw [A.unwanted hg, if_neg (by simp), hdst]
 exact hk _ (A.put hd undef)
theorem ya (A : Sf ds a n l) (hg : zk l ops o = true) {d : Nat} (hdst : o.dst = some d) (hd : Nat.blt d n = true) {f : FuncId} {vs : List Value} (he : Enters P l o w f vs)
  {R : Ending → World → Prop} (hc : Calls P f vs.toArray w R)
  (hk : ∀ e w', R e w' → ∃ v, e = .returned v ∧ ∀ a', Sf ds a' n ((d, v) :: l) → wpList P ops.toArray Q rest a' w') : wpList P ops.toArray Q (o :: rest) a w := by
 unfold wpList
 rw [if_pos (A.wanted hg)]
 refine .inl ?_
 unfold Oper.wp
 rw [he a.eval (fun x u hx => A.ev hx), Oper.upon_enter]
 refine hc.mono ?_
 intro e w' hR
 obtain ⟨v, rfl, h⟩ := hk e w' hR
 simp only [hdst]
 exact h _ (A.put hd v)
theorem qdc (A : Sf ds a n l) (hg : zk l ops o = true) {d : Nat} (hdst : o.dst = some d) (hd : Nat.blt d n = true) {f : FuncId} {vs : List Value} (he : Enters P l o w f vs)
  {R : Ending → World → Prop} (hc : Calls P f vs.toArray w R)
  (hk : ∀ e w', R e w' → (∃ ch, e = .panicked ch ∧ Q (.panic ch) a w') ∨ ∃ v, e = .returned v ∧ ∀ a', Sf ds a' n ((d, v) :: l) → wpList P ops.toArray Q rest a' w') : wpList P ops.toArray Q (o :: rest) a w := by
 unfold wpList
 rw [if_pos (A.wanted hg)]
 refine .inl ?_
 unfold Oper.wp
 rw [he a.eval (fun x u hx => A.ev hx), Oper.upon_enter]
 refine hc.mono ?_
 intro e w' hR
 rcases hk e w' hR with ⟨ch, rfl, h⟩ | ⟨v, rfl, h⟩
 ·
  exact h
 ·
  simp only [hdst]
  exact h _ (A.put hd v)
theorem zeb (A : Sf ds a n l) (hg : zk l ops o = true) (hdst : o.dst = none) {d : Deferred} (he : ∀ ρ : Operand → Value, (∀ x u, ev l x = some u → ρ x = u) → (execOp ρ o).run P w = .ok (.defer d) w)
  (hk : ∀ a', Sf (d :: ds) a' n l → wpList P ops.toArray Q rest a' w) : wpList P ops.toArray Q (o :: rest) a w := by
 unfold wpList
 rw [if_pos (A.wanted hg)]
 refine .inl ?_
 unfold Oper.wp
 rw [he a.eval (fun x u hx => A.ev hx), Oper.upon_defer, hdst]
 refine hk _ ⟨A.sl, ?_⟩
 show d :: a.defers = _
 rw [A.df]
variable {w0 : World} {L : List Ck} {d : Nat}
theorem qri (A : Sf ds a n l) (M : Mg w0 w L) (hg : zk l ops o = true) (hdst : o.dst = some d) (hd : Nat.blt d n = true) {vs : List Value} {t : TypeId} (val : Nat → Value) (he : Does P l o w (val w.heap.size) (w.alloc (.cells vs.toArray t))) (ht : t ≠ BY)
  (hk : ∀ g w', Mg w0 w' (.obj g (.cells vs.toArray t) :: L) → ∀ a', Sf ds a' n ((d, val g) :: l) → wpList P ops.toArray Q rest a' w') : wpList P ops.toArray Q (o :: rest) a w :=
 jp A hg hdst hd he (hk _ _ (M.addObj _ (xd ht)))
theorem vb (A : Sf ds a n l) (M : Mg w0 w L) (hg : zk l ops o = true) (hdst : o.dst = none) {g q : Nat} {cs vs us : List Value} {e : TypeId} (he : Sets P l o w (w.setCells g q cs)) (k : Nat) (hk0 : L[k]? = some (.obj g (.cells vs.toArray e))) (hus : over vs q cs = us) {L' : List Ck} (hL : L.set k (.obj g (.cells us.toArray e)) = L')
  (hk : ∀ w', Mg w0 w' L' → wpList P ops.toArray Q rest a w') : wpList P ops.toArray Q (o :: rest) a w :=
 zse A hg hdst he (hk _ (by subst hus hL; exact Mg.puts cs w L vs q M k hk0))
theorem yi {fn : Func} (A : Sf ds a n l) {rs : List ResultVar} (hrs : fn.results = rs.toArray) {vs : List Value} (hvs : AllRes P l w rs vs) (hv : ym vs = v) : (results fn a.tmps).run P w = .ok v w := by
 obtain ⟨_, u, h1, h2⟩ := yt (P := P) (fn := fn) (Z := fun e _ => e = .returned v) A.sl hrs hvs hv rfl
 cases h2
 exact h1
theorem ur {fn : Func} {t1 t2 : Array Value} {R : Ending → World → Prop} (h : results fn t1 = results fn t2) : ∀ (ds : List Deferred) (u : FrameMode) (w : World), Leaves P fn t1 R ds u w → Leaves P fn t2 R ds u w
 | [], .returning, w, ⟨v, h1, h2⟩ => ⟨v, h ▸ h1, h2⟩
 | [], .panicking _, w, k => k
 | [], .run, w, k => k
 | d :: ds, u, w, ⟨hu, fv, cap, f, args, h1, h2, h3⟩ => ⟨hu, fv, cap, f, args, h1, h2, h3.mono fun e u' w' k => by
  cases e with
  | returned v => exact ur h ds _ _ k
  | panicked ch => exact ur h ds _ _ k
  | outgrown => exact k⟩
theorem zsf {f : FuncId} {fn : Func} {c : Code} {args : List Value} {Z : Ending → World → Prop} {ok : Nat → Prop} (hres : ∀ (d : Nat) (t : Array Value) (v : Value), ok d → results fn (t.setIfInBounds d v) = results fn t) (hf : P.funcs[f]? = some fn) (hb : fn.body = some c) (hn : fn.ntmps = n) (hl : Nat.ble args.length n = true) (hs : (args.zipIdx.map fun p => (p.2, p.1)) = l)
  (h : ∀ Q : Exit → Act → World → Prop, (∀ a w, bodyPostD P fn Z .ret a w → Q .ret a w) → (∀ ch a w, bodyPostD P fn Z (.panic ch) a w → Q (.panic ch) a w) → (∀ c a d v w, ok d → Q (.panic c) (Act.put a (some d) v) w → Q (.panic c) a w) → ∀ a, Sf [] a n l → c.wp P Q a w) : Calls P f args.toArray w Z := by
 subst hs
 refine calls_of_wp_defers hf hb (h _ (fun _ _ h => h) (fun _ _ _ h => h) (fun c a d v w hk hq => ?_) _ ⟨?_, rfl⟩)
 ·
  exact ur (hres d a.tmps v hk) _ _ _ hq
 ·
  rw [hn]
  exact Sl.enter (Nat.le_of_ble_eq_true hl)
section
variable {S : World → Prop} {md : Region.Mode} {fuel : Nat} {listed : Array Bool}
theorem qrj {ok : Nat → Prop} (A : Sf ds a n l) (i : Nat) (hi : ops[i]? = some o) (hg : zk l ops o = true) {d : Nat} (hdst : o.dst = some d) (hd : Nat.blt d n = true) (hP : ∀ c a d v w, ok d → Q (.panic c) (Act.put a (some d) v) w → Q (.panic c) a w) (V : S w) (he : ∀ w, S w → Does P l o w v w)
  (hk : ∀ a', Sf ds a' n ((d, v) :: l) → wpAnyH P md ops.toArray Q S fuel (listed.setIfInBounds i true) a' w) (hok : ok d) (hs : Region.noSelect ops.toArray = true := by kernel_rfl) (hf : Region.free md ops.toArray listed i = true := by kernel_rfl) (hr : (Region.ready md ops.toArray listed).contains i = true := by kernel_rfl) : wpAnyH P md ops.toArray Q S (fuel + 1) listed a w := by
 refine wpAnyH_take (i := i) (oi := o) (v := v) (by simpa using hi) hs hf hr (fun c a w h => by rw [hdst] at h; exact hP c a d v w hok h) (Or.inl ⟨A.wanted hg, fun w hw => he w hw a.eval (fun x u hx => A.ev hx)⟩) V ?_
 rw [hdst]
 exact hk _ (A.put hd v)
theorem zyi (A : Sf ds a n l) (i : Nat) (hi : ops[i]? = some o) (hg : zk l ops o = true) (hdst : o.dst = none) (he : Sets P l o w w') (V : S w')
  (hk : wpAnyH P md ops.toArray Q S fuel (listed.setIfInBounds i true) a w') : wpOp P ops.toArray Q i (fun a' w' => S w' ∧ wpAnyH P md ops.toArray Q S fuel (listed.setIfInBounds i true) a' w') a w := by
 unfold wpOp
 simp only [List.getElem?_toArray, hi]
 rw [if_pos (A.wanted hg)]
 refine .inl ?_
 unfold Oper.wp
 rw [he a.eval (fun x u hx => A.ev hx), Oper.upon_skip, hdst]
 exact ⟨V, hk⟩
theorem qli (A : Sf ds a n l) (M : Mg w0 w L) (i : Nat) (hi : ops[i]? = some o) (hg : zk l ops o = true) (hdst : o.dst = none) {g q : Nat} {cs vs us : List Value} {e : TypeId} (he : Sets P l o w (w.setCells g q cs)) (k : Nat) (hk0 : L[k]? = some (.obj g (.cells vs.toArray e))) (hus : over vs q cs = us) {L' : List Ck} (hL : L.set k (.obj g (.cells us.toArray e)) = L')
  (hk : ∀ w', Mg w0 w' L' → S w' ∧ wpAnyH P md ops.toArray Q S fuel (listed.setIfInBounds i true) a w') : wpOp P ops.toArray Q i (fun a' w' => S w' ∧ wpAnyH P md ops.toArray Q S fuel (listed.setIfInBounds i true) a' w') a w := by
 have h := hk _ (by subst hus hL; exact Mg.puts cs w L vs q M k hk0)
 exact zyi A i hi hg hdst he h.1 h.2
end
theorem qfe {fn : Func} {Z : Ending → World → Prop} {fv : Fn} {cap : Array Value} {f : FuncId} {args : Array Value} (A : Sf [{ target := .fn fv cap, args := #[] }] a n l) (hi : (invoke (.fn fv cap) #[]).run P w = .ok (.enter f args) w) (hc : CallsD P f args .returning w fun e u' w' => (∃ v, e = .returned v) ∧ u' = .returning ∧ w' = w) (hr : (results fn a.tmps).run P w = .ok v w) (hz : Z (.returned v) w) : bodyPostD P fn Z .ret a w := by
 show Leaves P fn a.tmps Z a.defers .returning w
 rw [A.df]
 refine leaves_cons (by simp) hi (hc.mono ?_)
 rintro e u' w' ⟨⟨u, rfl⟩, rfl, rfl⟩
 exact ⟨v, hr, hz⟩
theorem qxh {fn : Func} {Z : Ending → World → Prop} {fv : Fn} {cap : Array Value} {f : FuncId} {args : Array Value} {ch : List PanicEntry} {K : World → Prop} (A : Sf [{ target := .fn fv cap, args := #[] }] a n l) (hi : (invoke (.fn fv cap) #[]).run P w = .ok (.enter f args) w) (hc : CallsD P f args (.panicking ch) w fun e u' w' => (∃ v, e = .returned v) ∧ settle u' = .returning ∧ K w') (hr : ∀ w', K w' → ∃ v, (results fn a.tmps).run P w' = .ok v w' ∧ Z (.returned v) w') : bodyPostD P fn Z (.panic ch) a w := by
 show Leaves P fn a.tmps Z a.defers (.panicking ch) w
 rw [A.df]
 refine leaves_cons (by simp) hi (hc.mono ?_)
 rintro e u' w' ⟨⟨u, rfl⟩, h2, h3⟩
 show Leaves P fn a.tmps Z [] (settle u') w'
 rw [h2]
 exact hr w' h3
theorem zyj {Q : Exit → Act → List Frame → World → Prop} {cs cs' : List Frame} {id : Nat} {o0 o1 : Oper} {d0 d1 : Nat} (A : Sl a n l) (hg0 : o0.guard = none) (hd0 : o0.dst = some d0) (hn0 : Nat.blt d0 n = true) (hg1 : o1.guard = none) (hd1 : o1.dst = some d1) (hn1 : Nat.blt d1 n = true) (he0 : ∀ (ρ : Operand → Value) (w : World), (execOp ρ o0).run P w = .ok .recover w) (hrec : recoverD cs = some (v, cs') ∨ recoverD cs = none ∧ v = .nilIface ∧ cs' = cs) (he1 : Does P ((d0, v) :: l) o1 w v w) (hk : ∀ a', Sl a' n ((d1, v) :: (d0, v) :: l) → Q .normal a' cs' w) : (Code.region id #[o0, o1] false).wpS P Q a cs w := by
 apply wpS_region
 show wpOpsS P #[o0, o1] Q [0, 1] a cs w
 have h0 : wpOpsS P #[o0, o1] Q [1] (a.put (some d0) v) cs' w := by
  have hA2 := A.put hn0 v
  have e1 : (execOp (a.put (some d0) v).eval o1).run P w = .ok (.value v) w := he1 _ (fun x u hx => hA2.ev hx)
  have w1 : Region.wanted o1 (yielded #[o0, o1] (a.put (some d0) v).tmps) = true := by unfold Region.wanted; rw [hg1]
  simp only [wpOpsS, show (#[o0, o1] : Array Oper)[1]? = some o1 from rfl, w1, if_true, e1, Oper.upon_value, hd1]
  exact hk _ (hA2.put hn1 v)
 have e0 : (execOp a.eval o0).run P w = .ok .recover w := he0 _ _
 have w0 : Region.wanted o0 (yielded #[o0, o1] a.tmps) = true := by unfold Region.wanted; rw [hg0]
 rw [wpOpsS]
 simp only [show (#[o0, o1] : Array Oper)[0]? = some o0 from rfl, w0, if_true, e0, hd0]
 rcases hrec with h | ⟨h, rfl, rfl⟩
 ·
  simp only [h]; exact h0
 ·
  simp only [h]; exact h0
theorem qlj {fn : Func} {c₀ : Frame} {cs cs' : List Frame} {R : Ending → FrameMode → World → Prop} {id : Nat} {o0 o1 : Oper} {d0 d1 : Nat} {y : Code} (A : Sl a n l) (hg0 : o0.guard = none) (hd0 : o0.dst = some d0) (hn0 : Nat.blt d0 n = true) (hg1 : o1.guard = none) (hd1 : o1.dst = some d1) (hn1 : Nat.blt d1 n = true) (he0 : ∀ (ρ : Operand → Value) (w : World), (execOp ρ o0).run P w = .ok .recover w) (hrec : recoverD (c₀ :: cs) = some (v, cs') ∨ recoverD (c₀ :: cs) = none ∧ v = .nilIface ∧ cs' = c₀ :: cs) (he1 : Does P ((d0, v) :: l) o1 w v w)
  (hk : ∀ Q : Exit → Act → World → Prop, (∀ a w, bodyPostS P fn c₀ cs R .ret a cs' w → Q .ret a w) → (∀ a w, bodyPostS P fn c₀ cs R .ret a cs' w → Q .normal a w) → ∀ a', Sl a' n ((d1, v) :: (d0, v) :: l) → y.wp P Q a' w) : (Code.seq (Code.region id #[o0, o1] false) y).wpS P (bodyPostS P fn c₀ cs R) a (c₀ :: cs) w :=
 wpS_seq (zyj A hg0 hd0 hn0 hg1 hd1 hn1 he0 hrec he1 fun a' hA' => wpS_of_wp (hk _ (fun _ _ h => h) (fun _ _ h => h) a' hA'))
end
theorem qhj {g2 g3 g4 : Nat} : Sl { tmps := #[(pA g2 0), (pA g3 0), (pA g4 0)] ++ Array.replicate (Tryz.f19.ntmps - #[(pA g2 0), (pA g3 0), (pA g4 0)].size) undef, defers := [] } 18 [(0, pA g2 0), (1, pA g3 0), (2, pA g4 0)] := by
 have h := Sl.enter (args := [pA g2 0, pA g3 0, pA g4 0]) (m := 18) (Nat.le_of_ble_eq_true rfl)
 exact h
theorem zkj {P : Program} {t : TypeId} {x : Operand} {c : Value} (h : P.underlying t = some (.interface (P.methodsAt t))) : ∀ w, (do eqGuard .eql t x (.const c) .nilIface .nilIface; binOp .eql t .nilIface .nilIface : Sem Value).run P w = .ok (bV true) w := fun w => by simp [go_sem, run_eql_nil_nil w t h]
theorem zza (w : World) (v : Value) : (Instr.typeAssert (.iface 47 v) 20 47 true).run Tryz.prog w = .ok (.tuple #[v, bV true]) w := by kernel_rfl
theorem qsa {w : World} {l : List (Nat × Value)} {dst : Option Tmp} {ty : TypeId} {pos : String} {after : Array Edge} {guard : Option (Nat × Bool)} {x : Operand} {v : Value} (hx : ev l x = some (.iface 47 v)) : Does Tryz.prog l ⟨dst, .typeAssert x 20 47 true, ty, pos, after, guard⟩ w (.tuple #[v, bV true]) w := fun ρ h => by
 simp [execOp, h x _ hx, zza w v]
theorem qxi {P : Program} {t : TypeId} {x y : Operand} {ty : TypeId} {q : Value} (h : P.underlying t = some (.interface (P.methodsAt t))) : ∀ w, (do eqGuard .eql t x y (.iface ty q) .nilIface; binOp .eql t (.iface ty q) .nilIface : Sem Value).run P w = .ok (bV false) w := fun w => by simp [go_sem, run_eql_held_nil w t ty q h]
theorem qoe {P : Program} {fn : Func} {tmps : Array Value} {w : World} (h : fn.results = #[]) : (results fn tmps).run P w = .ok (.tuple #[]) w := by
 unfold results
 simp [h]
theorem ut {w : World} {g2 g3 g4 : Nat} : CallsD Tryz.prog 19 #[(pA g2 0), (pA g3 0), (pA g4 0)] .returning w fun e u' w' => (∃ v, e = .returned v) ∧ u' = .returning ∧ w' = w := by
 refine callsD_of_wpS Tryz.func19 rfl fun c₀ cs hu => ?_
 refine qlj (v := .nilIface) qhj rfl rfl rfl rfl rfl rfl (fun ρ w => rfl) (.inr ⟨by simp [recoverD, hu], rfl, rfl⟩) (qp rfl) ?_
 intro Q hret hnorm a A
 have M : Mg w w ([]) := Mg.start w
 refine wsk fun K1 hK1 => wsk fun K2 hK2 => wrl (sdm A λa A↦?_)
 refine sdo (v := bV true) A (qb rfl rfl (zkj Tryz.underlying20)) λa A↦?_
 refine qa (hK2 _ _ (ct A ?_))
 refine wp_ret (hret _ _ ?_)
 exact ⟨A.none_, .returning, by rw [← hu], _, qoe rfl, ⟨_, rfl⟩, rfl, rfl⟩
theorem zla {w0 w : World} {g2 g3 g4 : Nat} {v0 v1 v2 v3 v4 v5 v6 v7 v8 v9 v10 x3 x4 : Value} {T : List Ck} (hM0 : Mg w0 w (.obj g2 (.cells #[v0, v1, v2, v3, v4, v5, v6, v7, v8, v9, v10] 30) :: .obj g3 (.cells #[x3] 3) :: .obj g4 (.cells #[x4] 31) :: T)) : CallsD Tryz.prog 19 #[(pA g2 0), (pA g3 0), (pA g4 0)] (.panicking flt) w fun e u' w' => (∃ v, e = .returned v) ∧ settle u' = .returning ∧ Mg w0 w' (.obj g2 zC :: .obj g3 (.cells #[iV 0] 3) :: .obj g4 (.cells #[iV 5] 31) :: T) := by
 refine callsD_of_wpS Tryz.func19 rfl fun c₀ cs hu => ?_
 refine qlj (v := .iface 47 (.agg #[])) qhj rfl rfl rfl rfl rfl rfl (fun ρ w => rfl) (cs' := { c₀ with mode := .panicking [{ v := .iface 47 (.agg #[]), recovered := true }] } :: cs) (.inl (by simp [recoverD, hu, flt])) (qp rfl) ?_
 intro Q hret hnorm a A
 have M : Mg w0 w (.obj g2 (.cells #[v0, v1, v2, v3, v4, v5, v6, v7, v8, v9, v10] 30) :: .obj g3 (.cells #[x3] 3) :: .obj g4 (.cells #[x4] 31) :: T) := hM0
 refine wsk fun K1 hK1 => wsk fun K2 hK2 => wrl (sdm A λa A↦?_)
 refine sdo (v := bV false) A (qb rfl rfl (qxi Tryz.underlying20)) λa A↦?_
 refine qa (hK2 _ _ (cf A ?_))
 refine wp_skip (hK1 _ _ (wsk fun K3 hK3 => wsk fun K4 hK4 => wrl (sdm A λa A↦?_)))
 refine sdo (v := .tuple #[.agg #[], bV true]) A (qsa rfl) λa A↦?_
 refine sdm A λa A↦?_
 iterate 2 refine sdo A (qi (vs := [.agg #[], bV true]) rfl rfl) λa A↦?_
 refine vv (vs := []) (t := 47) A M rfl rfl rfl pg (ql (z := .agg #[]) (by kernel_rfl) rfl) (by decide) ?_
 intro g5 w6 M a A
 refine zp (L' := (.obj g5 (.cells #[] 47) :: .obj g2 (.cells #[v0, v1, v2, v3, v4, v5, v6, v7, v8, v9, v10] 30) :: .obj g3 (.cells #[x3] 3) :: .obj g4 (.cells #[x4] 31) :: T)) A M rfl rfl (ze rfl rfl rfl (by kernel_rfl) M 0 rfl rfl rfl) 0 rfl rfl rfl ?_
 intro w7 M
 refine sda A λa A↦?_
 refine qa (hK4 _ _ (wsk fun K8 hK8 => wrl (sdm A λa A↦?_)))
 refine sdo (v := bV false) A (zi rfl zr) λa A↦?_
 refine qa (hK8 _ _ (cf A ?_))
 refine wp_skip (hK3 _ _ (wrl (sdo (v := .agg zD.toArray) A (zb rfl (fun w => by kernel_rfl)) λa A↦?_)))
 refine zp (L' := (.obj g5 (.cells #[] 47) :: .obj g2 zC :: .obj g3 (.cells #[x3] 3) :: .obj g4 (.cells #[x4] 31) :: T)) A M rfl rfl (ze rfl rfl rfl (by kernel_rfl) M 1 rfl rfl rfl) 1 rfl rfl rfl ?_
 intro w9 M
 refine zp (L' := (.obj g5 (.cells #[] 47) :: .obj g2 zC :: .obj g3 (.cells #[iV 0] 3) :: .obj g4 (.cells #[x4] 31) :: T)) A M rfl rfl (ze rfl rfl rfl (by kernel_rfl) M 2 rfl rfl rfl) 2 rfl rfl rfl ?_
 intro w10 M
 refine zp (L' := (.obj g5 (.cells #[] 47) :: .obj g2 zC :: .obj g3 (.cells #[iV 0] 3) :: .obj g4 (.cells #[iV 5] 31) :: T)) A M rfl rfl (ze rfl rfl rfl (by kernel_rfl) M 3 rfl rfl rfl) 3 rfl rfl rfl ?_
 intro w11 M
 refine qa (hnorm _ _ ?_)
 exact ⟨A.none_, _, rfl, _, qoe rfl, ⟨_, rfl⟩, rfl, M.sub (cn (.refl _))⟩
theorem Mg.here {w0 w : World} {L : List Ck} (h : Mg w0 w L) (k : Nat) {g : Nat} {cs : List Value} {t : TypeId} (hk : L[k]? = some (.obj g (.cells cs.toArray t))) : Here w g 0 cs := ⟨(Array.getElem?_eq_some_iff.1 (h.obj k hk)).1, fun j v hj => by rw [Nat.zero_add]; exact h.cell k hk j hj⟩
theorem zsg {w : World} {d : Nd} {ts : List Dt} (hrd : (Dt.mk d ts).rd w) : Calls Tryz.prog 15 #[.agg (d.cells ts.length).toArray] w fun e w' => e = .returned (bV (jw 1 20000 (Dt.mk d ts).tr).1) ∧ Below w.heap.size w w' := by
 have M : Mg w w ([]) := Mg.start w
 refine qt (l := [(0, .agg (d.cells ts.length).toArray)]) Tryz.func15 rfl Tryz.ntmps15 rfl rfl ?_
 intro Q hret hnorm hP a A
 refine wsk fun K1 hK1 => wrl (vv (vs := [iV d.k, iV d.n, bV d.y.q.b1, .slice d.y.o1 d.y.q.t1.length d.y.c1, .slice d.y.o2 d.y.q.q1.length d.y.c2, bV d.y.q.b2, .slice d.y.o3 d.y.q.t2.length d.y.c3, .slice d.y.o4 d.y.q.q2.length d.y.c4, .string d.s, .slice d.ro d.rl.length d.rc, .slice d.lo ts.length d.lc]) (t := 30) A M rfl rfl rfl pg (zn rfl rfl) (by decide) ?_)
 intro g2 w3 M a A
 refine sda A λa A↦?_
 refine qa (hK1 _ _ (wsk fun K4 hK4 => ?_))
 have hB1 := M.bel
 have hH1 := M.here 0 (cs := d.cells ts.length) rfl
 replace M : Mg w3 w3 [] := Mg.start w3
 refine wrl (vv (vs := [iV 0]) (t := 3) A M rfl rfl rfl pg (ql (z := iV 0) (by kernel_rfl) rfl) (by decide) ?_)
 intro g5 w6 M a A
 refine zp (L' := (.obj g5 (.cells #[iV 20000] 3) :: [])) A M rfl rfl (ze rfl rfl rfl (by kernel_rfl) M 0 rfl rfl rfl) 0 rfl rfl rfl ?_
 intro w7 M
 refine qa (hK4 _ _ (wsk fun K8 hK8 => wrl (sct A (ef rfl rfl) (zae (Dt.mk d ts) (Dt.keep hB1 _ hrd) hH1 M (by omega) (by omega) (by omega) (by omega)) ?_)))
 rintro _ w10 ⟨rfl, hM9⟩
 replace M : Mg w3 w10 (.obj g5 (.cells #[iV ((jw 1 20000 (Dt.mk d ts).tr).2)] 3) :: []) := hM9
 refine ⟨_, rfl, ?_⟩
 intro a A
 refine sda A λa A↦?_
 refine qa (hK8 _ _ (wr1 hret A ?_))
 exact ⟨rfl, hB1.trans (M.bel.mono hB1.size)⟩
def frX (L : List UInt8) : Int × Nat × Tr :=
 match skp (2 * L.length + 1) L with
 | none => (5, 0, kf)
 | some a => if (L.drop a).isEmpty = true then (11, 0, kf) else
  match dat (2 * L.length + 1) (L.drop a) with
  | none => (5, 0, kf)
  | some r => if Lib.validD (L.take (a + r.2.1)) = true then (if r.2.2 = true then (4, 0, kf) else if (jw 1 20000 r.1).1 = true then (0, a + r.2.1, r.1) else (4, 0, kf)) else (5, 0, kf)
theorem zzb {L : List UInt8} (h : skp (2 * L.length + 1) L = none) : frX L = (5, 0, kf) := by unfold frX; rw [h]
theorem jdf {L : List UInt8} {a : Nat} (h : skp (2 * L.length + 1) L = some a) (h2 : (L.drop a).isEmpty = true) : frX L = (11, 0, kf) := by unfold frX; rw [h]; exact if_pos h2
theorem jhc {L : List UInt8} {a : Nat} (h : skp (2 * L.length + 1) L = some a) (h2 : (L.drop a).isEmpty = false) (h3 : dat (2 * L.length + 1) (L.drop a) = none) : frX L = (5, 0, kf) := by
 unfold frX; rw [h]
 show ite _ _ _ = _
 rw [if_neg (by rw [h2]; decide), h3]
theorem jhd {L : List UInt8} {a n : Nat} {t : Tr} {b : Bool} (h : skp (2 * L.length + 1) L = some a) (h2 : (L.drop a).isEmpty = false) (h3 : dat (2 * L.length + 1) (L.drop a) = some (t, n, b)) : frX L = if Lib.validD (L.take (a + n)) = true then (if b = true then (4, 0, kf) else if (jw 1 20000 t).1 = true then (0, a + n, t) else (4, 0, kf)) else (5, 0, kf) := by
 unfold frX; rw [h]
 show ite _ _ _ = _
 rw [if_neg (by rw [h2]; decide), h3]
theorem qff {w : World} {g2 g3 g4 : Nat} : (invoke (.fn (.func 19) #[(pA g2 0), (pA g3 0), (pA g4 0)]) #[]).run Tryz.prog w = .ok (.enter 19 #[(pA g2 0), (pA g3 0), (pA g4 0)]) w := by simp [go_sem]
theorem zsh {w : World} {t : Dt} {b : Bool} (h : t.rd w) (hb : (jw 1 20000 t.tr).1 = b) : Calls Tryz.prog 15 #[.agg (t.d.cells t.ts.length).toArray] w fun e w' => e = .returned (bV b) ∧ Below w.heap.size w w' := by
 subst hb
 cases t
 exact zsg h
theorem zlb : ∀ (d : Nat) (t : Array Value) (v : Value), (d ≠ 2 ∧ d ≠ 3 ∧ d ≠ 4) → results Tryz.f14 (t.setIfInBounds d v) = results Tryz.f14 t := fun d t v h => by
 unfold results
 rw [show Tryz.f14.results = #[.cell 2 30, .cell 3 3, .cell 4 31] from by kernel_rfl]
 simp [Array.getElem?_setIfInBounds, h.1, h.2.1, h.2.2]
theorem zlc {w0 w : World} {L : List UInt8} {U Z : List Ck} (hN : Env w0) (hU : Cu U) (hZ : Ob Z) (hl : L.length ≤ 1000000000) (hM0 : Mg w0 w (U ++ Z)) : Calls Tryz.prog 14 #[.string (tx L)] w fun e w' => ∃ t F, e = .returned (.tuple #[.agg (t.d.cells t.ts.length).toArray, iV (((frX L).2.1 : Nat) : Int), iV (frX L).1]) ∧ (t.tr = (frX L).2.2 ∧ ((frX L).1 = 0 → 1 ≤ (frX L).2.1 ∧ (frX L).2.1 ≤ List.length L)) ∧ (Lv w0 (F ++ Z) t ∧ Ob F) ∧ Mg w0 w' (U ++ (F ++ Z)) := by
 have hT := hN.tb
 have hSk : SkC (2 * L.length + 1) := (qxg _).1
 have hDa : DaC (2 * L.length + 1) := (qxg _).2
 refine zsf zlb (l := [(0, .string (tx L))]) Tryz.func14 rfl Tryz.ntmps14 rfl rfl ?_
 intro Q hret hpan hP a A
 have M : Mg w0 w ((U ++ Z)) := hM0
 refine wsk fun K1 hK1 => wrl (qri (vs := zD) (t := 30) A M rfl rfl rfl pg (ql (z := .agg zD.toArray) (by kernel_rfl) rfl) (by decide) ?_)
 intro g2 w3 M a A
 refine qri (vs := [iV 0]) (t := 3) A M rfl rfl rfl pg (ql (z := iV 0) (by kernel_rfl) rfl) (by decide) ?_
 intro g4 w5 M a A
 refine qri (vs := [iV 0]) (t := 31) A M rfl rfl rfl pg (ql (z := iV 0) (by kernel_rfl) rfl) (by decide) ?_
 intro g6 w7 M a A
 refine qa (hK1 _ _ (wsk fun K8 hK8 => wrl (jp (v := .func (.func 19) #[] [pA g2 0, pA g4 0, pA g6 0].toArray) A rfl rfl rfl (qbj rfl) λa A↦?_)))
 refine zeb (d := { target := .fn (.func 19) #[(pA g2 0), (pA g4 0), (pA g6 0)], args := #[] }) A rfl rfl (fun ρ h => by simp [execOp, resolve, Deferred.ofValue, h (.tmp 6) _ rfl]) λa A↦?_
 have hX : ∀ (ch : List PanicEntry) (a : Act) (w1 : World) (m : Nat) (k : List (Nat × Value)), Sf [{ target := .fn (.func 19) #[(pA g2 0), (pA g4 0), (pA g6 0)], args := #[] }] a m k → (ch = flt ∧ m = 31 ∧ AllIn k [(2, (pA g2 0)), (3, (pA g4 0)), (4, (pA g6 0))] ∧ frX L = (5, 0, kf) ∧ ∃ v0 v1 v2 v3 v4 v5 v6 v7 v8 v9 v10 x3 x4 : Value, Mg w0 w1 (.obj g2 (.cells #[v0, v1, v2, v3, v4, v5, v6, v7, v8, v9, v10] 30) :: .obj g4 (.cells #[x3] 3) :: .obj g6 (.cells #[x4] 31) :: (U ++ Z))) → Q (.panic ch) a w1 := by
  rintro ch a w1 m k hA9 ⟨rfl, rfl, hin, hfr, v0, v1, v2, v3, v4, v5, v6, v7, v8, v9, v10, x3, x4, hM9⟩
  refine hpan _ _ _ (qxh (n := 31) (l := [(2, (pA g2 0)), (3, (pA g4 0)), (4, (pA g6 0))]) (hA9.keep _ hin) qff (zla hM9) fun w2 h2 => ⟨_, yi (hA9.keep [(2, (pA g2 0)), (3, (pA g4 0)), (4, (pA g6 0))] hin) rfl (.cons (zu h2 xz rfl 0 rfl (cs := zD) rfl rfl) (.cons (xt h2 o93 rfl 1 rfl rfl) (.cons (xt h2 znj rfl 2 rfl rfl) .nil))) rfl, ?_⟩)
  exact ⟨qee, [], by rw [hfr]; rfl, ⟨by rw [hfr]; exact yw, fun k => absurd k (by rw [hfr]; decide)⟩, ⟨fun w _ => yy w, Ob.nil⟩, h2.sub (cn (cn (cn (.refl _))))⟩
 refine qa (hK8 _ _ (wsk fun K9 hK9 => wrl (jp A rfl rfl rfl (qy rfl) λa A↦?_)))
 refine jp (v := .agg #[.string ((tx L)), iV 0, bV false]) A rfl rfl rfl (zb rfl (fun w => by kernel_rfl)) λa A↦?_
 refine qri (vs := [.string (⟨#[]⟩), iV 0, bV false]) (t := 50) A M rfl rfl rfl pg (ql (z := .agg #[.string (⟨#[]⟩), iV 0, bV false]) (by kernel_rfl) rfl) (by decide) ?_
 intro g10 w11 M a A
 refine vb (L' := (.obj g10 (.cells #[.string ((tx L)), iV 0, bV false] 50) :: .obj g6 (.cells #[iV 0] 31) :: .obj g4 (.cells #[iV 0] 3) :: .obj g2 zC :: (U ++ Z))) A M rfl rfl (ze rfl rfl rfl (by kernel_rfl) M 0 rfl rfl rfl) 0 rfl rfl rfl ?_
 intro w12 M
 refine qa (hK9 _ _ (wsk fun K13 hK13 => wrl ?_))
 replace M : Mg w0 w12 (.obj g6 (.cells #[iV 0] 31) :: .obj g10 (.cells #[.string ((tx L)), iV 0, bV false] 50) :: .obj g4 (.cells #[iV 0] 3) :: .obj g2 zC :: (U ++ Z)) := M.bring 1 rfl rfl
 replace M : Mg w0 w12 (.obj g4 (.cells #[iV 0] 3) :: .obj g6 (.cells #[iV 0] 31) :: .obj g10 (.cells #[.string ((tx L)), iV 0, bV false] 50) :: .obj g2 zC :: (U ++ Z)) := M.bring 2 rfl rfl
 replace M : Mg w0 w12 (.obj g2 zC :: .obj g4 (.cells #[iV 0] 3) :: .obj g6 (.cells #[iV 0] 31) :: .obj g10 (.cells #[.string ((tx L)), iV 0, bV false] 50) :: (U ++ Z)) := M.bring 3 rfl rfl
 replace M : Mg w0 w12 (.obj g10 (.cells #[.string ((tx L)), iV 0, bV false] 50) :: .obj g2 zC :: .obj g4 (.cells #[iV 0] 3) :: .obj g6 (.cells #[iV 0] 31) :: (U ++ Z)) := M.bring 3 rfl rfl
 refine qdc A rfl rfl rfl (ef rfl rfl) (hSk (p := 0) (U := (.obj g2 zC :: .obj g4 (.cells #[iV 0] 3) :: .obj g6 (.cells #[iV 0] 31) :: U)) (Z := Z) hN (Cu.cons rfl (Cu.cons rfl (Cu.cons rfl hU))) hZ (Nat.zero_le _) hl (by omega) M) ?_
 rintro _ w14 (⟨rfl, hp15⟩ | ⟨n1, rfl, ⟨hs1, hl1⟩, hM1⟩)
 ·
  exact .inl ⟨_, rfl, hX _ _ _ _ _ A (⟨rfl, rfl, ⟨rfl, rfl, rfl, trivial⟩, zzb hp15.1, _, _, _, _, _, _, _, _, _, _, _, _, _, (hp15.2.elim fun q9 h9 => h9.elim fun l9 h9 => h9.sub (cn (cc (cc (cc (.refl _))))))⟩)⟩
 rw [Nat.zero_add] at hl1 hM1
 replace M : Mg w0 w14 (.obj g10 (rC L n1 false) :: .obj g2 zC :: .obj g4 (.cells #[iV 0] 3) :: .obj g6 (.cells #[iV 0] 31) :: (U ++ Z)) := hM1
 refine .inr ⟨_, rfl, ?_⟩
 intro a A
 refine qa (hK13 _ _ (wsk fun K16 hK16 => wsk fun K17 hK17 => wrl (ya A rfl rfl rfl (ef rfl rfl) (xj (p := n1) (L := L) (T := (.obj g2 zC :: .obj g4 (.cells #[iV 0] 3) :: .obj g6 (.cells #[iV 0] 31) :: (U ++ Z))) (by omega) M) ?_)))
 rintro _ w19 ⟨rfl, hM18⟩
 replace M : Mg w0 w19 (.obj g10 (rC L n1 false) :: .obj g2 zC :: .obj g4 (.cells #[iV 0] 3) :: .obj g6 (.cells #[iV 0] 31) :: (U ++ Z)) := hM18
 refine ⟨_, rfl, ?_⟩
 intro a A
 rcases tf ((L.drop n1).isEmpty) with hb20 | hb20
 ·
  refine jp (v := bV true) A rfl rfl rfl (qb rfl rfl (fun w => (qva (a := L.drop n1) Tryz.underlying9 w).trans (by rw [hb20] <;> rfl))) λa A↦?_
  refine qa (hK17 _ _ (ct A ?_))
  refine wsk fun K21 hK21 => wrl (jp (v := .agg zD.toArray) A rfl rfl rfl (zb rfl (fun w => by kernel_rfl)) λa A↦?_)
  refine vb (L' := (.obj g10 (rC L n1 false) :: .obj g2 zC :: .obj g4 (.cells #[iV 0] 3) :: .obj g6 (.cells #[iV 0] 31) :: (U ++ Z))) A M rfl rfl (ze rfl rfl rfl (by kernel_rfl) M 1 rfl rfl rfl) 1 rfl rfl rfl ?_
  intro w22 M
  refine vb (L' := (.obj g10 (rC L n1 false) :: .obj g2 zC :: .obj g4 (.cells #[iV 0] 3) :: .obj g6 (.cells #[iV 0] 31) :: (U ++ Z))) A M rfl rfl (ze rfl rfl rfl (by kernel_rfl) M 2 rfl rfl rfl) 2 rfl rfl rfl ?_
  intro w23 M
  refine vb (L' := (.obj g10 (rC L n1 false) :: .obj g2 zC :: .obj g4 (.cells #[iV 0] 3) :: .obj g6 (.cells #[iV 11] 31) :: (U ++ Z))) A M rfl rfl (ze rfl rfl rfl (by kernel_rfl) M 3 rfl rfl rfl) 3 rfl rfl rfl ?_
  intro w24 M
  refine qa (hK21 _ _ (wp_ret (hret _ _ (qfe A qff ut (yi A rfl (.cons (zu M xz rfl 1 rfl (cs := zD) rfl rfl) (.cons (xt M o93 rfl 2 rfl rfl) (.cons (xt M znj rfl 3 rfl rfl) .nil))) rfl) ?_))))
  have hfr := jdf hs1 hb20
  exact ⟨qee, [], by rw [hfr]; rfl, ⟨by rw [hfr]; exact yw, fun k => absurd k (by rw [hfr]; decide)⟩, ⟨fun w _ => yy w, Ob.nil⟩, M.sub (cn (cn (cn (cn (.refl _)))))⟩
 ·
  refine jp (v := bV false) A rfl rfl rfl (qb rfl rfl (fun w => (qva (a := L.drop n1) Tryz.underlying9 w).trans (by rw [hb20] <;> rfl))) λa A↦?_
  refine qa (hK17 _ _ (cf A ?_))
  refine wp_skip (hK16 _ _ (wsk fun K25 hK25 => wrl ?_))
  replace M : Mg w0 w19 (.obj g6 (.cells #[iV 0] 31) :: .obj g10 (rC L n1 false) :: .obj g2 zC :: .obj g4 (.cells #[iV 0] 3) :: (U ++ Z)) := M.bring 3 rfl rfl
  replace M : Mg w0 w19 (.obj g4 (.cells #[iV 0] 3) :: .obj g6 (.cells #[iV 0] 31) :: .obj g10 (rC L n1 false) :: .obj g2 zC :: (U ++ Z)) := M.bring 3 rfl rfl
  replace M : Mg w0 w19 (.obj g2 zC :: .obj g4 (.cells #[iV 0] 3) :: .obj g6 (.cells #[iV 0] 31) :: .obj g10 (rC L n1 false) :: (U ++ Z)) := M.bring 3 rfl rfl
  replace M : Mg w0 w19 (.obj g10 (rC L n1 false) :: .obj g2 zC :: .obj g4 (.cells #[iV 0] 3) :: .obj g6 (.cells #[iV 0] 31) :: (U ++ Z)) := M.bring 3 rfl rfl
  refine qdc A rfl rfl rfl (ef rfl rfl) (hDa (p := n1) (U := (.obj g2 zC :: .obj g4 (.cells #[iV 0] 3) :: .obj g6 (.cells #[iV 0] 31) :: U)) (Z := Z) hN (Cu.cons rfl (Cu.cons rfl (Cu.cons rfl hU))) hZ (by omega) hl (by omega) M) ?_
  rintro _ w26 (⟨rfl, hp27⟩ | ⟨t1, F1, n2, b2, rfl, ⟨hd1, hl2, hn1⟩, ⟨hL1, hO1⟩, hM2⟩)
  ·
   exact .inl ⟨_, rfl, hX _ _ _ _ _ A (⟨rfl, rfl, ⟨rfl, rfl, rfl, trivial⟩, jhc hs1 hb20 hp27.1, _, _, _, _, _, _, _, _, _, _, _, _, _, (hp27.2.elim fun q9 h9 => h9.elim fun l9 h9 => h9.sub (cn (cc (cc (cc (.refl _))))))⟩)⟩
  have hgo := jhd hs1 hb20 hd1
  replace M : Mg w0 w26 (.obj g10 (rC L (n1 + n2) ((false || b2))) :: .obj g2 zC :: .obj g4 (.cells #[iV 0] 3) :: .obj g6 (.cells #[iV 0] 31) :: (U ++ (F1 ++ Z))) := hM2
  refine .inr ⟨_, rfl, ?_⟩
  intro a A
  refine vb (L' := (.obj g10 (rC L (n1 + n2) ((false || b2))) :: .obj g2 (.cells (t1.d.cells t1.ts.length).toArray 30) :: .obj g4 (.cells #[iV 0] 3) :: .obj g6 (.cells #[iV 0] 31) :: (U ++ (F1 ++ Z)))) A M rfl rfl (ze rfl rfl rfl (by kernel_rfl) M 1 rfl rfl rfl) 1 rfl rfl rfl ?_
  intro w28 M
  refine qa (hK25 _ _ (wsk fun K29 hK29 => wrl (jp A rfl rfl rfl (qy rfl) λa A↦?_)))
  refine jp (v := pA g10 1) A rfl rfl rfl (qe yp rfl rfl) λa A↦?_
  refine jp A rfl rfl rfl (zq M o93 rfl 0 rfl rfl) λa A↦?_
  refine jp (v := .string ((tx (L.take (n1 + n2))))) A rfl rfl rfl (qcg (s := L) (p := n1 + n2) Tryz.underlying9 rfl rfl rfl (by omega)) λa A↦?_
  rcases tf (Lib.validD (L.take (n1 + n2))) with hb31 | hb31
  ·
   refine ya A rfl rfl rfl (ef rfl rfl) (qjb (l := L.take (n1 + n2)) (by rw [List.length_take]; omega) (hT.below M.bel) hb31) ?_
   rintro _ w33 ⟨rfl, hb32⟩
   replace M := M.call hb32
   refine ⟨_, rfl, ?_⟩
   intro a A
   refine ya A rfl rfl rfl (ef rfl rfl) (vq) ?_
   rintro _ w35 ⟨rfl, hb34⟩
   replace M := M.call hb34
   refine ⟨_, rfl, ?_⟩
   intro a A
   refine qa (hK29 _ _ (wsk fun K36 hK36 => wsk fun K37 hK37 => wrl (jp (v := pA g10 2) A rfl rfl rfl (qe qpj rfl rfl) λa A↦?_)))
   rcases tf ((false || b2)) with hb38 | hb38
   ·
    rw [hb38] at M
    refine jp (v := bV true) A rfl rfl rfl (zq M o94 rfl 0 rfl rfl) λa A↦?_
    refine jp A rfl rfl rfl (qy rfl) λa A↦?_
    iterate 3 refine zki A rfl rfl rfl λa A↦?_
    refine jp (v := bV true) A rfl rfl rfl (jh rfl rfl rfl rfl) λa A↦?_
    refine qa (hK37 _ _ (ct A ?_))
    refine wsk fun K39 hK39 => wrl (jp (v := .agg zD.toArray) A rfl rfl rfl (zb rfl (fun w => by kernel_rfl)) λa A↦?_)
    refine vb (L' := (.obj g10 (rC L (n1 + n2) true) :: .obj g2 zC :: .obj g4 (.cells #[iV 0] 3) :: .obj g6 (.cells #[iV 0] 31) :: (U ++ (F1 ++ Z)))) A M rfl rfl (ze rfl rfl rfl (by kernel_rfl) M 1 rfl rfl rfl) 1 rfl rfl rfl ?_
    intro w40 M
    refine vb (L' := (.obj g10 (rC L (n1 + n2) true) :: .obj g2 zC :: .obj g4 (.cells #[iV 0] 3) :: .obj g6 (.cells #[iV 0] 31) :: (U ++ (F1 ++ Z)))) A M rfl rfl (ze rfl rfl rfl (by kernel_rfl) M 2 rfl rfl rfl) 2 rfl rfl rfl ?_
    intro w41 M
    refine vb (L' := (.obj g10 (rC L (n1 + n2) true) :: .obj g2 zC :: .obj g4 (.cells #[iV 0] 3) :: .obj g6 (.cells #[iV 4] 31) :: (U ++ (F1 ++ Z)))) A M rfl rfl (ze rfl rfl rfl (by kernel_rfl) M 3 rfl rfl rfl) 3 rfl rfl rfl ?_
    intro w42 M
    refine qa (hK39 _ _ (wp_ret (hret _ _ (qfe A qff ut (yi A rfl (.cons (zu M xz rfl 1 rfl (cs := zD) rfl rfl) (.cons (xt M o93 rfl 2 rfl rfl) (.cons (xt M znj rfl 3 rfl rfl) .nil))) rfl) ?_))))
    rw [if_pos hb31, if_pos (show b2 = true from hb38)] at hgo
    exact ⟨qee, F1, by rw [hgo]; rfl, ⟨by rw [hgo]; exact yw, fun k => absurd k (by rw [hgo]; decide)⟩, ⟨fun w _ => yy w, hO1⟩, M.sub (cn (cn (cn (cn (.refl _)))))⟩
   ·
    rw [hb38] at M
    refine jp (v := bV false) A rfl rfl rfl (zq M o94 rfl 0 rfl rfl) λa A↦?_
    refine jp A rfl rfl rfl (qy rfl) λa A↦?_
    refine jp A rfl rfl rfl (vf M xz rfl 1 rfl (cs := [iV t1.d.k, iV t1.d.n, bV t1.d.y.q.b1, .slice t1.d.y.o1 t1.d.y.q.t1.length t1.d.y.c1, .slice t1.d.y.o2 t1.d.y.q.q1.length t1.d.y.c2, bV t1.d.y.q.b2, .slice t1.d.y.o3 t1.d.y.q.t2.length t1.d.y.c3, .slice t1.d.y.o4 t1.d.y.q.q2.length t1.d.y.c4, .string t1.d.s, .slice t1.d.ro t1.d.rl.length t1.d.rc, .slice t1.d.lo t1.ts.length t1.d.lc]) rfl rfl) λa A↦?_
    rcases tf ((jw 1 20000 t1.tr).1) with hb44 | hb44
    ·
     refine ya A rfl rfl rfl (ef rfl rfl) (zsh (hL1 _ (M.sub (cn (cn (cn (cn (List.sublist_append_right _ _))))))) hb44) ?_
     rintro _ w46 ⟨rfl, hb45⟩
     replace M := M.call hb45
     refine ⟨_, rfl, ?_⟩
     intro a A
     refine jp (v := bV false) A rfl rfl rfl (zi rfl zr) λa A↦?_
     refine jp (v := bV false) A rfl rfl rfl (jh rfl rfl rfl rfl) λa A↦?_
     refine qa (hK37 _ _ (cf A ?_))
     refine wp_skip (hK36 _ _ (wsk fun K47 hK47 => zj (S := fun w1 => Mg w0 w1 (.obj g10 (rC L (n1 + n2) false) :: .obj g2 (.cells (t1.d.cells t1.ts.length).toArray 30) :: [])) (by kernel_rfl) ?_))
     replace M := M.drew
     refine qrj A 0 rfl rfl rfl rfl hP (M.sub (cc (cc (cn (cn ns))))) (λ_ M↦vf M xz rfl 1 rfl (cs := [iV t1.d.k, iV t1.d.n, bV t1.d.y.q.b1, .slice t1.d.y.o1 t1.d.y.q.t1.length t1.d.y.c1, .slice t1.d.y.o2 t1.d.y.q.q1.length t1.d.y.c2, bV t1.d.y.q.b2, .slice t1.d.y.o3 t1.d.y.q.t2.length t1.d.y.c3, .slice t1.d.y.o4 t1.d.y.q.q2.length t1.d.y.c4, .string t1.d.s, .slice t1.d.ro t1.d.rl.length t1.d.rc, .slice t1.d.lo t1.ts.length t1.d.lc]) rfl rfl) ?_ (by decide)
     intro a A
     refine qrj (v := pA g10 1) A 1 rfl rfl rfl rfl hP (M.sub (cc (cc (cn (cn ns))))) (λ_ M↦qe yp rfl rfl) ?_ (by decide)
     intro a A
     refine qrj A 2 rfl rfl rfl rfl hP (M.sub (cc (cc (cn (cn ns))))) (λ_ M↦zq M o93 rfl 0 rfl rfl) ?_ (by decide)
     intro a A
     refine zh (by kernel_rfl) (qli (L' := (.obj g10 (rC L (n1 + n2) false) :: .obj g2 (.cells (t1.d.cells t1.ts.length).toArray 30) :: .obj g4 (.cells #[iV 0] 3) :: .obj g6 (.cells #[iV 0] 31) :: (U ++ (F1 ++ Z)))) A M 3 rfl rfl rfl (ze rfl rfl rfl (by kernel_rfl) M 1 rfl rfl rfl) 1 rfl rfl rfl ?_)
     intro w48 M
     refine ⟨(M.sub (cc (cc (cn (cn ns))))), ?_⟩
     refine zh (by kernel_rfl) (qli (L' := (.obj g10 (rC L (n1 + n2) false) :: .obj g2 (.cells (t1.d.cells t1.ts.length).toArray 30) :: .obj g4 (.cells #[iV (((n1 + n2 : Nat) : Int))] 3) :: .obj g6 (.cells #[iV 0] 31) :: (U ++ (F1 ++ Z)))) A M 4 rfl rfl rfl (ze rfl rfl rfl (by kernel_rfl) M 2 rfl rfl rfl) 2 rfl rfl rfl ?_)
     intro w49 M
     refine ⟨(M.sub (cc (cc (cn (cn ns))))), ?_⟩
     refine zh (by kernel_rfl) (qli (L' := (.obj g10 (rC L (n1 + n2) false) :: .obj g2 (.cells (t1.d.cells t1.ts.length).toArray 30) :: .obj g4 (.cells #[iV (((n1 + n2 : Nat) : Int))] 3) :: .obj g6 (.cells #[iV 0] 31) :: (U ++ (F1 ++ Z)))) A M 5 rfl rfl rfl (ze rfl rfl rfl (by kernel_rfl) M 3 rfl rfl rfl) 3 rfl rfl rfl ?_)
     intro w50 M
     refine ⟨(M.sub (cc (cc (cn (cn ns))))), ?_⟩
     refine qs (by kernel_rfl) ?_
     refine hK47 _ _ (wp_ret (hret _ _ (qfe A qff ut (yi A rfl (.cons (zu M xz rfl 1 rfl (cs := [iV t1.d.k, iV t1.d.n, bV t1.d.y.q.b1, .slice t1.d.y.o1 t1.d.y.q.t1.length t1.d.y.c1, .slice t1.d.y.o2 t1.d.y.q.q1.length t1.d.y.c2, bV t1.d.y.q.b2, .slice t1.d.y.o3 t1.d.y.q.t2.length t1.d.y.c3, .slice t1.d.y.o4 t1.d.y.q.q2.length t1.d.y.c4, .string t1.d.s, .slice t1.d.ro t1.d.rl.length t1.d.rc, .slice t1.d.lo t1.ts.length t1.d.lc]) rfl rfl) (.cons (xt M o93 rfl 2 rfl rfl) (.cons (xt M znj rfl 3 rfl rfl) .nil))) rfl) ?_)))
     rw [if_pos hb31, if_neg (by rw [show b2 = false from hb38]; decide), if_pos hb44] at hgo
     exact ⟨t1, F1, by rw [hgo]; rfl, ⟨by rw [hgo], fun _ => by rw [hgo]; show 1 ≤ n1 + n2 ∧ n1 + n2 ≤ L.length; omega⟩, ⟨hL1, hO1⟩, M.sub (cn (cn (cn (cn (.refl _)))))⟩
    ·
     refine ya A rfl rfl rfl (ef rfl rfl) (zsh (hL1 _ (M.sub (cn (cn (cn (cn (List.sublist_append_right _ _))))))) hb44) ?_
     rintro _ w52 ⟨rfl, hb51⟩
     replace M := M.call hb51
     refine ⟨_, rfl, ?_⟩
     intro a A
     refine jp (v := bV true) A rfl rfl rfl (zi rfl zr) λa A↦?_
     refine jp (v := bV true) A rfl rfl rfl (jh rfl rfl rfl rfl) λa A↦?_
     refine qa (hK37 _ _ (ct A ?_))
     refine wsk fun K53 hK53 => wrl (jp (v := .agg zD.toArray) A rfl rfl rfl (zb rfl (fun w => by kernel_rfl)) λa A↦?_)
     refine vb (L' := (.obj g10 (rC L (n1 + n2) false) :: .obj g2 zC :: .obj g4 (.cells #[iV 0] 3) :: .obj g6 (.cells #[iV 0] 31) :: (U ++ (F1 ++ Z)))) A M rfl rfl (ze rfl rfl rfl (by kernel_rfl) M 1 rfl rfl rfl) 1 rfl rfl rfl ?_
     intro w54 M
     refine vb (L' := (.obj g10 (rC L (n1 + n2) false) :: .obj g2 zC :: .obj g4 (.cells #[iV 0] 3) :: .obj g6 (.cells #[iV 0] 31) :: (U ++ (F1 ++ Z)))) A M rfl rfl (ze rfl rfl rfl (by kernel_rfl) M 2 rfl rfl rfl) 2 rfl rfl rfl ?_
     intro w55 M
     refine vb (L' := (.obj g10 (rC L (n1 + n2) false) :: .obj g2 zC :: .obj g4 (.cells #[iV 0] 3) :: .obj g6 (.cells #[iV 4] 31) :: (U ++ (F1 ++ Z)))) A M rfl rfl (ze rfl rfl rfl (by kernel_rfl) M 3 rfl rfl rfl) 3 rfl rfl rfl ?_
     intro w56 M
     refine qa (hK53 _ _ (wp_ret (hret _ _ (qfe A qff ut (yi A rfl (.cons (zu M xz rfl 1 rfl (cs := zD) rfl rfl) (.cons (xt M o93 rfl 2 rfl rfl) (.cons (xt M znj rfl 3 rfl rfl) .nil))) rfl) ?_))))
     rw [if_pos hb31, if_neg (by rw [show b2 = false from hb38]; decide), if_neg (by rw [hb44]; decide)] at hgo
     exact ⟨qee, F1, by rw [hgo]; rfl, ⟨by rw [hgo]; exact yw, fun k => absurd k (by rw [hgo]; decide)⟩, ⟨fun w _ => yy w, hO1⟩, M.sub (cn (cn (cn (cn (.refl _)))))⟩
  ·
   refine ya A rfl rfl rfl (ef rfl rfl) (qjb (l := L.take (n1 + n2)) (by rw [List.length_take]; omega) (hT.below M.bel) hb31) ?_
   rintro _ w58 ⟨rfl, hb57⟩
   replace M := M.call hb57
   refine ⟨_, rfl, ?_⟩
   intro a A
   replace M : Mg w0 w58 (.obj g6 (.cells #[iV 0] 31) :: .obj g10 (rC L (n1 + n2) ((false || b2))) :: .obj g2 (.cells (t1.d.cells t1.ts.length).toArray 30) :: .obj g4 (.cells #[iV 0] 3) :: (U ++ (F1 ++ Z))) := M.bring 3 rfl rfl
   replace M : Mg w0 w58 (.obj g4 (.cells #[iV 0] 3) :: .obj g6 (.cells #[iV 0] 31) :: .obj g10 (rC L (n1 + n2) ((false || b2))) :: .obj g2 (.cells (t1.d.cells t1.ts.length).toArray 30) :: (U ++ (F1 ++ Z))) := M.bring 3 rfl rfl
   replace M : Mg w0 w58 (.obj g2 (.cells (t1.d.cells t1.ts.length).toArray 30) :: .obj g4 (.cells #[iV 0] 3) :: .obj g6 (.cells #[iV 0] 31) :: .obj g10 (rC L (n1 + n2) ((false || b2))) :: (U ++ (F1 ++ Z))) := M.bring 3 rfl rfl
   replace M : Mg w0 w58 (.obj g10 (rC L (n1 + n2) ((false || b2))) :: .obj g2 (.cells (t1.d.cells t1.ts.length).toArray 30) :: .obj g4 (.cells #[iV 0] 3) :: .obj g6 (.cells #[iV 0] 31) :: (U ++ (F1 ++ Z))) := M.bring 3 rfl rfl
   refine qdc A rfl rfl rfl (ef rfl rfl) (xu) ?_
   rintro _ w60 ⟨rfl, hp61⟩
   exact .inl ⟨_, rfl, hX _ _ _ _ _ A (⟨rfl, rfl, ⟨rfl, rfl, rfl, trivial⟩, by rw [hgo, if_neg (by rw [hb31]; decide)], _, _, _, _, _, _, _, _, _, _, _, _, _, ((M.call hp61).sub (.cons _ (.cons_cons _ (.cons_cons _ (.cons_cons _ zrh)))))⟩)⟩
def rdX (L : List UInt8) : Int × Nat × Tr := if 65536 < L.length then (18, 0, kf) else frX L
theorem zzc {L : List UInt8} (h : 65536 < L.length) : rdX L = (18, 0, kf) := if_pos h
theorem zsi {L : List UInt8} (h : ¬ 65536 < L.length) : rdX L = frX L := if_neg h
theorem read_any {w0 w : World} {L : List UInt8} {U Z : List Ck} (hN : Env w0) (hU : Cu U) (hZ : Ob Z) (hl : L.length ≤ 9223372036854775807) (hM0 : Mg w0 w (U ++ Z)) : Calls Tryz.prog 7 #[.string (tx L)] w fun e w' => ∃ t F, e = .returned (.tuple #[.agg (t.d.cells t.ts.length).toArray, iV (((rdX L).2.1 : Nat) : Int), iV (rdX L).1]) ∧ (t.tr = (rdX L).2.2 ∧ ((rdX L).1 = 0 → 1 ≤ (rdX L).2.1 ∧ (rdX L).2.1 ≤ List.length L)) ∧ (Lv w0 (F ++ Z) t ∧ Ob F) ∧ Mg w0 w' (U ++ (F ++ Z)) := by
 have M : Mg w0 w ((U ++ Z)) := hM0
 refine qt (l := [(0, .string ((tx L)))]) Tryz.func7 rfl Tryz.ntmps7 rfl rfl ?_
 intro Q hret hnorm hP a A
 refine wsk fun K1 hK1 => wrl (vv (vs := zD) (t := 30) A M rfl rfl rfl pg (ql (z := .agg zD.toArray) (by kernel_rfl) rfl) (by decide) ?_)
 intro g2 w3 M a A
 iterate 2 refine sda A λa A↦?_
 refine qa (hK1 _ _ (wsk fun K4 hK4 => wsk fun K5 hK5 => wrl (sdm A λa A↦?_)))
 refine sdo (v := iV (((L.length : Nat) : Int))) A (qx (s := L) Tryz.underlying9 rfl) λa A↦?_
 rcases tf (decide (65536 < ((L.length : Nat) : Int))) with hb6 | hb6
 ·
  have hb6' := of_decide_eq_true hb6
  refine sdc A ja hb6 λa A↦?_
  refine qa (hK5 _ _ (ct A ?_))
  refine wsk fun K7 hK7 => wrl (sdo (v := .agg zD.toArray) A (zb rfl (fun w => by kernel_rfl)) λa A↦?_)
  refine zp (L' := (.obj g2 zC :: (U ++ Z))) A M rfl rfl (ze rfl rfl rfl (by kernel_rfl) M 0 rfl rfl rfl) 0 rfl rfl rfl ?_
  intro w8 M
  iterate 2 refine sda A λa A↦?_
  refine qa (hK7 _ _ (wp_ret (hret _ _ (en3 A rfl (zu M xz rfl 0 rfl (cs := zD) rfl rfl) (qh rfl) (qh rfl) ?_))))
  have he := zzc (L := L) (by omega)
  exact ⟨qee, [], by rw [he]; rfl, ⟨by rw [he]; exact yw, fun k => absurd k (by rw [he]; decide)⟩, ⟨fun w _ => yy w, Ob.nil⟩, M.sub (cn (.refl _))⟩
 ·
  have hb6' := of_decide_eq_false hb6
  refine sdc A ja hb6 λa A↦?_
  refine qa (hK5 _ _ (cf A ?_))
  refine wp_skip (hK4 _ _ (wsk fun K9 hK9 => wrl (sdm A λa A↦?_)))
  refine sct A (ef rfl rfl) (zlc (U := (.obj g2 zC :: U)) (Z := Z) hN (Cu.cons rfl hU) hZ (by omega) M) ?_
  rintro _ w10 ⟨t1, F1, rfl, ⟨htr1, hle1⟩, ⟨hL1, hO1⟩, hM1⟩
  replace M : Mg w0 w10 (.obj g2 zC :: (U ++ (F1 ++ Z))) := hM1
  refine ⟨_, rfl, ?_⟩
  intro a A
  iterate 3 refine sdo A (qi (vs := [.agg (t1.d.cells t1.ts.length).toArray, iV ((((frX L).2.1 : Nat) : Int)), iV ((frX L).1)]) rfl rfl) λa A↦?_
  refine zp (L' := (.obj g2 (.cells (t1.d.cells t1.ts.length).toArray 30) :: (U ++ (F1 ++ Z)))) A M rfl rfl (ze rfl rfl rfl (by kernel_rfl) M 0 rfl rfl rfl) 0 rfl rfl rfl ?_
  intro w11 M
  iterate 2 refine sda A λa A↦?_
  refine qa (hK9 _ _ (wp_ret (hret _ _ (en3 A rfl (zu M xz rfl 0 rfl (cs := [iV t1.d.k, iV t1.d.n, bV t1.d.y.q.b1, .slice t1.d.y.o1 t1.d.y.q.t1.length t1.d.y.c1, .slice t1.d.y.o2 t1.d.y.q.q1.length t1.d.y.c2, bV t1.d.y.q.b2, .slice t1.d.y.o3 t1.d.y.q.t2.length t1.d.y.c3, .slice t1.d.y.o4 t1.d.y.q.q2.length t1.d.y.c4, .string t1.d.s, .slice t1.d.ro t1.d.rl.length t1.d.rc, .slice t1.d.lo t1.ts.length t1.d.lc]) rfl rfl) (qh rfl) (qh rfl) ?_))))
  have he := zsi (L := L) (by omega)
  exact ⟨t1, F1, by rw [he] <;> rfl, ⟨by rw [he]; exact htr1, by rw [he]; exact hle1⟩, ⟨hL1, hO1⟩, M.sub (cn (.refl _))⟩
def AW : List UInt8 := [32, 40, 97, 32, 46, 32, 35, 116, 41, 120]
def AWT : Tr := .mk 8 0 Q6.zero ⟨#[]⟩ [] [lfT 6 0 (tx [97]), lfT 2 1 ⟨#[]⟩]
set_option maxRecDepth 100000 in
theorem jdg : rdX AW = (0, 9, AWT) := by kernel_rfl
theorem zsj {w : World} (hN : Env w) : Calls Tryz.prog 7 #[.string (tx AW)] w fun e w' => ∃ t : Dt, e = .returned (.tuple #[.agg (t.d.cells t.ts.length).toArray, iV 9, iV 0]) ∧ (t.tr = AWT ∧ t.rd w') ∧ Below w.heap.size w w' := by
 refine (read_any (L := AW) (U := []) (Z := []) hN Cu.nil Ob.nil (by decide) (Mg.start w)).mono ?_
 rintro e w' ⟨t, F, rfl, ⟨h1, _⟩, ⟨hL, _⟩, M⟩
 rw [jdg] at h1 ⊢
 exact ⟨t, rfl, ⟨h1, hL _ M⟩, M.bel⟩
theorem jag (t : Dt) : t.tr.ts = t.ts.map Dt.tr := by cases t; rw [Dt.tr_mk]; rfl
theorem jii (t : Dt) : t.tr.s = t.d.s := by cases t; rw [Dt.tr_mk]; rfl
theorem jij (t : Dt) : t.tr.n = t.d.n := by cases t; rw [Dt.tr_mk]; rfl
theorem zta {t u : Dt} {i : Nat} {x : Tr} (h : t.ts[i]? = some u) (hx : t.tr.ts[i]? = some x) : u.tr = x := by
 rw [jag, List.getElem?_map, h] at hx
 exact Option.some.inj hx
theorem qof {w : World} (hN : Env w) : Calls Tryz.prog 8 #[] w fun e w' => e = .returned (bV true) ∧ Below w.heap.size w w' := by
 have M : Mg w w ([]) := Mg.start w
 refine qt (l := []) Tryz.func8 rfl Tryz.ntmps8 rfl rfl ?_
 intro Q hret hnorm hP a A
 refine wsk fun K1 hK1 => wrl (sda A λa A↦?_)
 refine qa (hK1 _ _ (wsk fun K2 hK2 => wrl (sct A (ef rfl rfl) (zsj hN) ?_)))
 rintro _ w3 ⟨t1, rfl, ⟨htr1, hr1⟩, hB1⟩
 have hk8 : t1.d.k = 8 := by rw [← jig, htr1]; rfl
 have hln : t1.ts.length = 2 := by rw [← List.length_map (f := Dt.tr), ← jag, htr1]; rfl
 obtain ⟨ta, bta, ota, ita, mta, rta_, lta, Hta⟩ := zwe hr1 (i := 0) (by omega)
 obtain ⟨tb, btb, otb, itb, mtb, rtb_, ltb, Htb⟩ := zwe hr1 (i := 1) (by omega)
 have hsq : decide (ta.d.s = ⟨#[97]⟩) = true := decide_eq_true (by rw [← jii, zta ita (by rw [htr1]; rfl)]; rfl)
 have hnq : tb.d.n = 1 := by rw [← jij, zta itb (by rw [htr1]; rfl)]; rfl
 replace M : Mg w3 w3 ([]) := Mg.start w3
 refine ⟨_, rfl, ?_⟩
 intro a A
 refine sdm A λa A↦?_
 iterate 3 refine sdo A (qi (vs := [.agg (t1.d.cells t1.ts.length).toArray, iV 9, iV 0]) rfl rfl) λa A↦?_
 refine vv (vs := zD) (t := 30) A M rfl rfl rfl pg (ql (z := .agg zD.toArray) (by kernel_rfl) rfl) (by decide) ?_
 intro g4 w5 M a A
 refine zp (L' := (.obj g4 (.cells (t1.d.cells t1.ts.length).toArray 30) :: [])) A M rfl rfl (ze rfl rfl rfl (by kernel_rfl) M 0 rfl rfl rfl) 0 rfl rfl rfl ?_
 intro w6 M
 iterate 2 refine sda A λa A↦?_
 refine qa (hK2 _ _ (wsk fun K7 hK7 => wrl (sdm A λa A↦?_)))
 refine sdo (v := bV true) A dbK λa A↦?_
 iterate 2 refine sdm A λa A↦?_
 refine sdo (v := bV true) A dbK λa A↦?_
 refine sdk (v := bV true) A λa A↦?_
 refine sdm A λa A↦?_
 refine sdo (v := pA g4 0) A (qe qpi rfl rfl) λa A↦?_
 refine sdo A (zq M o93 rfl 0 rfl rfl) λa A↦?_
 refine sdo (v := bV true) A (qb rfl rfl (fun w => (qj w).trans (by rw [show ((t1.d.k == 8)) = true from (beq_iff_eq.2 hk8)]))) λa A↦?_
 refine sdk (v := bV true) A λa A↦?_
 refine sdm A λa A↦?_
 refine sdo (v := pA g4 10) A (qe kv rfl rfl) λa A↦?_
 refine sdo A (zq M qib rfl 0 rfl rfl) λa A↦?_
 refine sdo A (zv Tryz.underlying28 rfl) λa A↦?_
 refine sdo (v := bV true) A (qb rfl rfl (fun w => (qj w).trans (by rw [show ((((t1.ts.length : Nat) : Int) == 2)) = true from (beq_iff_eq.2 (by omega))]))) λa A↦?_
 refine sdk (v := bV true) A λa A↦?_
 refine sdm A λa A↦?_
 refine sdo (v := pA g4 10) A (qe kv rfl rfl) λa A↦?_
 refine sdo A (zq M qib rfl 0 rfl rfl) λa A↦?_
 refine sdo (v := pA bta (ota + 0 * 11)) A (xk (k := 0) Tryz.underlying28 (by kernel_rfl) rfl rfl rfl lta (by omega)) λa A↦?_
 refine sdo (v := pA bta (ota + 0 * 11 + 8)) A (qe zad rfl rfl) λa A↦?_
 refine sdo A (uj (j := 8) M Hta o99 rfl rfl rfl) λa A↦?_
 refine sdo (v := bV true) A (qb rfl rfl (fun w => (qtd Tryz.underlying9 w).trans (by rw [hsq] <;> rfl))) λa A↦?_
 refine sdk (v := bV true) A λa A↦?_
 refine sdm A λa A↦?_
 refine sdo (v := pA g4 10) A (qe kv rfl rfl) λa A↦?_
 refine sdo A (zq M qib rfl 0 rfl rfl) λa A↦?_
 refine sdo (v := pA btb (otb + 1 * 11)) A (xk (k := 1) Tryz.underlying28 (by kernel_rfl) rfl rfl rfl ltb (by omega)) λa A↦?_
 refine sdo (v := pA btb (otb + 1 * 11 + 1)) A (qe zac rfl rfl) λa A↦?_
 refine sdo A (uj (j := 1) M Htb o93 rfl rfl rfl) λa A↦?_
 refine sdo (v := bV true) A (qb rfl rfl (fun w => (qj w).trans (by rw [show ((tb.d.n == 1)) = true from (beq_iff_eq.2 hnq)]))) λa A↦?_
 refine sdk (v := bV true) A λa A↦?_
 refine sda A λa A↦?_
 refine qa (hK7 _ _ (wr1 hret A ?_))
 exact ⟨rfl, hB1.trans (M.bel.mono hB1.size)⟩
end Go.Proofs.YtclkfideaameoaaGreatDoor.G
namespace Go.Proofs.YtclkfideaameoaaGreatDoor
open Go.RowKit
set_option maxRecDepth 100000
theorem EqO_fld_26_0 : FieldAt Tryz.prog 26 0 0 := ⟨_, _, Tryz.underlying26, rfl, rfl, by kernel_rfl⟩
theorem EqO_fld_26_1 : FieldAt Tryz.prog 26 1 3 := ⟨_, _, Tryz.underlying26, rfl, rfl, by kernel_rfl⟩
theorem EqO_isS_24 : IsS Tryz.prog 24 3 := ⟨⟨_, Tryz.underlying24⟩, by kernel_rfl⟩
theorem zec {w : World} {p q : Q6} {a1 a2 a3 a4 : Option Addr} {ac1 ac2 ac3 ac4 : Nat} (ha : Nm w p a1 ac1 a2 ac2 a3 ac3 a4 ac4) (hl : LenQ p) {u1 u2 u3 u4 : Option Addr} {uc1 uc2 uc3 uc4 : Nat} (hu : Nm w q u1 uc1 u2 uc2 u3 uc3 u4 uc4) (hm : LenQ q) {r : Bool} (hr : (kb p.b1 p.t1 p.q1 q.b1 q.t1 q.q1 && kb p.b2 p.t2 p.q2 q.b2 q.t2 q.q2) = r) : Calls Tryz.prog 18 #[qdj p a1 ac1 a2 ac2 a3 ac3 a4 ac4, qdj q u1 uc1 u2 uc2 u3 uc3 u4 uc4] w fun e w' => e = .returned (bV r) ∧ Below w.heap.size w w' := by
 have S : St w w [] [(u4, q.q2), (u3, q.t2), (u2, q.q1), (u1, q.t1), (a4, p.q2), (a3, p.t2), (a2, p.q1), (a1, p.t1)] [] := ((((((((St.start w).addR ha.s1.rd).addR ha.s2.rd).addR ha.s3.rd).addR ha.s4.rd).addR hu.s1.rd).addR hu.s2.rd).addR hu.s3.rd).addR hu.s4.rd
 refine qt (l := [(0, .agg #[bV p.b1, .slice a1 p.t1.length ac1, .slice a2 p.q1.length ac2, bV p.b2, .slice a3 p.t2.length ac3, .slice a4 p.q2.length ac4]), (1, .agg #[bV q.b1, .slice u1 q.t1.length uc1, .slice u2 q.q1.length uc2, bV q.b2, .slice u3 q.t2.length uc3, .slice u4 q.q2.length uc4])]) Tryz.func18 rfl Tryz.ntmps18 rfl rfl ?_
 intro Q hret hnorm hP a A
 refine wsk fun K1 hK1 => wrl (zf A S rfl rfl rfl pg (zn rfl rfl) rfl ?_)
 intro g2 w3 S a A
 refine zf A S rfl rfl rfl pg (zn rfl rfl) rfl ?_
 intro g4 w5 S a A
 refine sda A λa A↦?_
 refine qa (hK1 _ _ (wsk fun K6 hK6 => wrl (sdo (v := pA g2 0) A (qe EqO_fld_26_0 rfl rfl) λa A↦?_)))
 refine sdo A (qk S EqO_isS_24 rfl 1 rfl (cs := [bV p.b1, .slice a1 p.t1.length ac1, .slice a2 p.q1.length ac2]) rfl rfl) λa A↦?_
 refine sdo (v := pA g4 0) A (qe EqO_fld_26_0 rfl rfl) λa A↦?_
 refine sdo A (qk S EqO_isS_24 rfl 0 rfl (cs := [bV q.b1, .slice u1 q.t1.length uc1, .slice u2 q.q1.length uc2]) rfl rfl) λa A↦?_
 rcases tf (kb p.b1 p.t1 p.q1 q.b1 q.t1 q.q1) with hb7 | hb7
 ·
  refine sct A (ef rfl rfl) (yl ⟨(S.rd 7 rfl), ha.s1.nil, ha.s1.cap⟩ ⟨(S.rd 6 rfl), ha.s2.nil, ha.s2.cap⟩ ⟨(S.rd 3 rfl), hu.s1.nil, hu.s1.cap⟩ ⟨(S.rd 2 rfl), hu.s2.nil, hu.s2.cap⟩ hl.l1 hl.l2 hm.l1 hm.l2 hb7) ?_
  rintro _ w9 ⟨rfl, hb8⟩
  replace S := S.call hb8
  refine ⟨_, rfl, ?_⟩
  intro a A
  refine sdm A λa A↦?_
  refine sdo (v := pA g2 3) A (qe EqO_fld_26_1 rfl rfl) λa A↦?_
  refine sdo A (qk S EqO_isS_24 rfl 1 rfl (cs := [bV p.b2, .slice a3 p.t2.length ac3, .slice a4 p.q2.length ac4]) rfl rfl) λa A↦?_
  refine sdo (v := pA g4 3) A (qe EqO_fld_26_1 rfl rfl) λa A↦?_
  refine sdo A (qk S EqO_isS_24 rfl 0 rfl (cs := [bV q.b2, .slice u3 q.t2.length uc3, .slice u4 q.q2.length uc4]) rfl rfl) λa A↦?_
  rcases tf (kb p.b2 p.t2 p.q2 q.b2 q.t2 q.q2) with hb10 | hb10
  ·
   refine sct A (ef rfl rfl) (yl ⟨(S.rd 5 rfl), ha.s3.nil, ha.s3.cap⟩ ⟨(S.rd 4 rfl), ha.s4.nil, ha.s4.cap⟩ ⟨(S.rd 1 rfl), hu.s3.nil, hu.s3.cap⟩ ⟨(S.rd 0 rfl), hu.s4.nil, hu.s4.cap⟩ hl.l3 hl.l4 hm.l3 hm.l4 hb10) ?_
   rintro _ w12 ⟨rfl, hb11⟩
   replace S := S.call hb11
   refine ⟨_, rfl, ?_⟩
   intro a A
   refine sdk (v := bV true) A λa A↦?_
   refine sda A λa A↦?_
   refine qa (hK6 _ _ (wr1 hret A ?_))
   subst hr
   exact ⟨by rw [hb7, hb10]; try rfl, S.bel⟩
  ·
   refine sct A (ef rfl rfl) (yl ⟨(S.rd 5 rfl), ha.s3.nil, ha.s3.cap⟩ ⟨(S.rd 4 rfl), ha.s4.nil, ha.s4.cap⟩ ⟨(S.rd 1 rfl), hu.s3.nil, hu.s3.cap⟩ ⟨(S.rd 0 rfl), hu.s4.nil, hu.s4.cap⟩ hl.l3 hl.l4 hm.l3 hm.l4 hb10) ?_
   rintro _ w14 ⟨rfl, hb13⟩
   replace S := S.call hb13
   refine ⟨_, rfl, ?_⟩
   intro a A
   refine sdk (v := bV false) A λa A↦?_
   refine sda A λa A↦?_
   refine qa (hK6 _ _ (wr1 hret A ?_))
   subst hr
   exact ⟨by rw [hb7, hb10]; try rfl, S.bel⟩
 ·
  refine sct A (ef rfl rfl) (yl ⟨(S.rd 7 rfl), ha.s1.nil, ha.s1.cap⟩ ⟨(S.rd 6 rfl), ha.s2.nil, ha.s2.cap⟩ ⟨(S.rd 3 rfl), hu.s1.nil, hu.s1.cap⟩ ⟨(S.rd 2 rfl), hu.s2.nil, hu.s2.cap⟩ hl.l1 hl.l2 hm.l1 hm.l2 hb7) ?_
  rintro _ w16 ⟨rfl, hb15⟩
  replace S := S.call hb15
  refine ⟨_, rfl, ?_⟩
  intro a A
  refine sdm A λa A↦?_
  iterate 5 refine qf A rfl rfl rfl λa A↦?_
  refine sdk (v := bV false) A λa A↦?_
  refine sda A λa A↦?_
  refine qa (hK6 _ _ (wr1 hret A ?_))
  subst hr
  exact ⟨by rw [hb7]; try rfl, S.bel⟩

end Go.Proofs.YtclkfideaameoaaGreatDoor
namespace Go.Proofs.YtclkfideaameoaaGreatDoor.G
open Go.RowKit
mutual
def uf : Tr → Tr → Bool
  | .mk k n q s rl ts, u => (decide (k = u.k) && (decide (n = u.n) && (decide (s = u.s) && (decide (rl = u.rl) && (kb q.b1 q.t1 q.q1 u.q.b1 u.q.t1 u.q.q1 && kb q.b2 q.t2 q.q2 u.q.b2 u.q.t2 u.q.q2))))) && (decide (ts.length = u.ts.length) && kw ts u.ts)
def kw : List Tr → List Tr → Bool
  | [], _ => true
  | _ :: _, [] => true
  | t :: ts, u :: us => uf t u && kw ts us
end
theorem zld {b b' : Bool} {t q t' q' : List Nat} : kb b t q b' t' q' = true ↔ b = b' ∧ t = t' ∧ q = q' := by
  unfold kb
  simp
theorem ztb (k n : Int) (q : Q6) (s : ByteArray) (rl : List UInt8) (ts : List Tr) (k' n' : Int) (q' : Q6) (s' : ByteArray) (rl' : List UInt8) (ts' : List Tr) : uf (.mk k n q s rl ts) (.mk k' n' q' s' rl' ts') = true ↔ k = k' ∧ n = n' ∧ q = q' ∧ s = s' ∧ rl = rl' ∧ ts.length = ts'.length ∧ kw ts ts' = true := by
  rw [uf]
  show ((decide (k = k') && (decide (n = n') && (decide (s = s') && (decide (rl = rl') && (kb q.b1 q.t1 q.q1 q'.b1 q'.t1 q'.q1 && kb q.b2 q.t2 q.q2 q'.b2 q'.t2 q'.q2))))) && (decide (ts.length = ts'.length) && kw ts ts')) = true ↔ _
  simp only [Bool.and_eq_true, decide_eq_true_eq, zld]
  constructor
  · rintro ⟨⟨a, b, c, d, ⟨e1, e2, e3⟩, f1, f2, f3⟩, g, h⟩
    refine ⟨a, b, ?_, c, d, g, h⟩
    cases q; cases q'
    simp_all
  · rintro ⟨a, b, c, d, e, f, g⟩
    subst c
    exact ⟨⟨a, b, d, e, ⟨rfl, rfl, rfl⟩, rfl, rfl, rfl⟩, f, g⟩
theorem qxj {ts : List Tr} (h : ∀ t ∈ ts, ∀ u, uf t u = true ↔ t = u) : ∀ us : List Tr, ts.length = us.length → (kw ts us = true ↔ ts = us) := by
  induction ts with
  | nil =>
    intro us hl
    cases us with
    | nil => simp [kw]
    | cons u us => simp at hl
  | cons t ts ih =>
    intro us hl
    cases us with
    | nil => simp at hl
    | cons u us =>
      rw [kw, Bool.and_eq_true, h t List.mem_cons_self u, ih (fun x hx => h x (List.mem_cons_of_mem _ hx)) us (by simpa using hl)]
      simp
theorem ztc : ∀ t u : Tr, uf t u = true ↔ t = u := by
  refine Tr.indT fun k n q s rl ts ih u => ?_
  obtain ⟨k', n', q', s', rl', ts'⟩ := u
  rw [ztb]
  constructor
  · rintro ⟨a, b, c, d, e, f, g⟩
    rw [a, b, c, d, e, (qxj ih ts' f).1 g]
  · intro h
    cases h
    exact ⟨rfl, rfl, rfl, rfl, rfl, rfl, (qxj ih ts rfl).2 rfl⟩
theorem qya {ts us : List Dt} {i : Nat} {t u : Dt} (hi : ts[i]? = some t) (hj : us[i]? = some u) : kw ((ts.map Dt.tr).drop i) ((us.map Dt.tr).drop i) = (uf t.tr u.tr && kw ((ts.map Dt.tr).drop (i + 1)) ((us.map Dt.tr).drop (i + 1))) := by
  rw [yv hi, yv hj, kw]
theorem zle {ts us : List Dt} {i : Nat} (h : ¬ i < ts.length) : kw ((ts.map Dt.tr).drop i) ((us.map Dt.tr).drop i) = true := by
  rw [qgc h, kw]
theorem qyb (p r : Dt) : uf p.tr r.tr = ((decide (p.d.k = r.d.k) && (decide (p.d.n = r.d.n) && (decide (p.d.s = r.d.s) && (decide (p.d.rl = r.d.rl) && (kb p.d.y.q.b1 p.d.y.q.t1 p.d.y.q.q1 r.d.y.q.b1 r.d.y.q.t1 r.d.y.q.q1 && kb p.d.y.q.b2 p.d.y.q.t2 p.d.y.q.q2 r.d.y.q.b2 r.d.y.q.t2 r.d.y.q.q2))))) && (decide (p.ts.length = r.ts.length) && kw (p.ts.map Dt.tr) (r.ts.map Dt.tr))) := by
  rw [Dt.tr_eta p, Dt.tr_eta r, uf, List.length_map]
  show _ = (_ && (decide (p.ts.length = r.ts.length) && _))
  rw [show (Tr.mk r.d.k r.d.n r.d.y.q r.d.s r.d.rl (r.ts.map Dt.tr)).ts.length = r.ts.length from List.length_map _]
  rfl
def SQ2 (p r : Dt) : Bool := kb p.d.y.q.b1 p.d.y.q.t1 p.d.y.q.q1 r.d.y.q.b1 r.d.y.q.t1 r.d.y.q.q1 && kb p.d.y.q.b2 p.d.y.q.t2 p.d.y.q.q2 r.d.y.q.b2 r.d.y.q.t2 r.d.y.q.q2
theorem uu {p r : Dt} (h : p.d.k ≠ r.d.k ∨ p.d.n ≠ r.d.n ∨ p.d.s ≠ r.d.s ∨ p.d.rl ≠ r.d.rl ∨ p.ts.length ≠ r.ts.length ∨ SQ2 p r = false) : uf p.tr r.tr = false := by
  rw [qyb]
  unfold SQ2 at h
  rcases h with h | h | h | h | h | h <;> simp [h]
theorem ztd {p r : Dt} (h1 : p.d.k = r.d.k) (h2 : p.d.n = r.d.n) (h3 : p.d.s = r.d.s) (h4 : p.d.rl = r.d.rl) (h5 : p.ts.length = r.ts.length) (h6 : SQ2 p r = true) : uf p.tr r.tr = kw (p.ts.map Dt.tr) (r.ts.map Dt.tr) := by
  rw [qyb]
  unfold SQ2 at h6
  rw [decide_eq_true h1, decide_eq_true h2, decide_eq_true h3, decide_eq_true h4, decide_eq_true h5, h6]
  simp
theorem zlf {a b : List UInt8} (hl : a.length = b.length) (h : ∀ j, j < a.length → a.getD j 0 = b.getD j 0) : a = b := by
  apply List.ext_getElem hl
  intro j h1 h2
  have := h j h1
  rwa [show a.getD j 0 = a[j] from by simp [List.getD, List.getElem?_eq_getElem h1], show b.getD j 0 = b[j] from by simp [List.getD, List.getElem?_eq_getElem h2]] at this
theorem jhe {a b : List UInt8} {i : Nat} (h : (((a.getD i 0).toNat : Nat) : Int) ≠ (((b.getD i 0).toNat : Nat) : Int)) : a ≠ b := fun e => h (by rw [e])
theorem jhf {a b : UInt8} (h : ((a.toNat : Nat) : Int) = ((b.toNat : Nat) : Int)) : a = b := UInt8.toNat_inj.1 (by omega)
set_option maxRecDepth 100000
theorem zhe {w : World} {so : Option Addr} {l : List UInt8} {i : Nat} (h : Rb w so l) (hi : i < l.length) : ∃ b off, so = some ⟨b, off, none⟩ ∧ b < w.heap.size ∧ ∀ j, j < l.length → w.cell? ⟨b, off + j, none⟩ = some (.int .u8 (((l.getD j 0).toNat : Nat) : Int)) :=
 h.pos (fun k => by rw [k] at hi; exact absurd hi (Nat.not_lt_zero _))
theorem qma {w : World} {t u : Dt} (ht : t.rd w) (hu : u.rd w) {b : Bool} (h : SQ2 t u = b) : Calls Tryz.prog 18 #[t.d.y.val, u.d.y.val] w fun e w' => e = .returned (bV b) ∧ Below w.heap.size w w' := zec (Dt.okT ht).1.num (Dt.okT ht).1.len (Dt.okT hu).1.num (Dt.okT hu).1.len h
def RSames (n : Nat) : Prop := ∀ {w : World} {t u : Dt}, t.tr.bulk < n → t.rd w → u.rd w → Calls Tryz.prog 12 #[.agg (t.d.cells t.ts.length).toArray, .agg (u.d.cells u.ts.length).toArray] w fun e w' => e = .returned (bV (uf t.tr u.tr)) ∧ Below w.heap.size w w'
theorem qyc {n : Nat} (ih : RSames n) : RSames (n + 1) := by
 intro w t u hn ht hu
 have hlt := (Dt.okT ht).2
 have hrt : t.d.rl.length ≤ 9223372036854775807 := Nat.le_trans (Dt.okT ht).1.rcap (Dt.okT ht).1.rmax
 have M : Mg w w ([]) := Mg.start w
 refine qt (l := [(0, .agg (t.d.cells t.ts.length).toArray), (1, .agg (u.d.cells u.ts.length).toArray)]) Tryz.func12 rfl Tryz.ntmps12 rfl rfl ?_
 intro Q hret hnorm hP a A
 refine wsk fun K1 hK1 => wrl (vv (vs := [iV t.d.k, iV t.d.n, bV t.d.y.q.b1, .slice t.d.y.o1 t.d.y.q.t1.length t.d.y.c1, .slice t.d.y.o2 t.d.y.q.q1.length t.d.y.c2, bV t.d.y.q.b2, .slice t.d.y.o3 t.d.y.q.t2.length t.d.y.c3, .slice t.d.y.o4 t.d.y.q.q2.length t.d.y.c4, .string t.d.s, .slice t.d.ro t.d.rl.length t.d.rc, .slice t.d.lo t.ts.length t.d.lc]) (t := 30) A M rfl rfl rfl pg (zn rfl rfl) (by decide) ?_)
 intro g2 w3 M a A
 refine vv (vs := [iV u.d.k, iV u.d.n, bV u.d.y.q.b1, .slice u.d.y.o1 u.d.y.q.t1.length u.d.y.c1, .slice u.d.y.o2 u.d.y.q.q1.length u.d.y.c2, bV u.d.y.q.b2, .slice u.d.y.o3 u.d.y.q.t2.length u.d.y.c3, .slice u.d.y.o4 u.d.y.q.q2.length u.d.y.c4, .string u.d.s, .slice u.d.ro u.d.rl.length u.d.rc, .slice u.d.lo u.ts.length u.d.lc]) (t := 30) A M rfl rfl rfl pg (zn rfl rfl) (by decide) ?_
 intro g4 w5 M a A
 refine sda A λa A↦?_
 refine qa (hK1 _ _ (wsk fun K6 hK6 => wsk fun K7 hK7 => wrl (sdo (v := pA g2 0) A (qe qpi rfl rfl) λa A↦?_)))
 refine sdo A (zq M o93 rfl 1 rfl rfl) λa A↦?_
 refine sdo (v := pA g4 0) A (qe qpi rfl rfl) λa A↦?_
 refine sdo A (zq M o93 rfl 0 rfl rfl) λa A↦?_
 rcases tf ((t.d.k != u.d.k)) with hb8 | hb8
 ·
  have hb8' := bne_iff_ne.1 hb8
  refine sdc A za hb8 λa A↦?_
  refine sdm A λa A↦?_
  iterate 5 refine qf A rfl rfl rfl λa A↦?_
  refine sdk (v := bV true) A λa A↦?_
  refine sdm A λa A↦?_
  iterate 5 refine qf A rfl rfl rfl λa A↦?_
  refine sdk (v := bV true) A λa A↦?_
  refine sdm A λa A↦?_
  iterate 7 refine qf A rfl rfl rfl λa A↦?_
  refine sdk (v := bV true) A λa A↦?_
  refine sdm A λa A↦?_
  iterate 7 refine qf A rfl rfl rfl λa A↦?_
  refine sdk (v := bV true) A λa A↦?_
  refine sdm A λa A↦?_
  iterate 6 refine qf A rfl rfl rfl λa A↦?_
  refine sdk (v := bV true) A λa A↦?_
  refine qa (hK7 _ _ (ct A ?_))
  refine wsk fun K9 hK9 => wrl (sda A λa A↦?_)
  refine qa (hK9 _ _ (wr1 hret A ?_))
  exact ⟨by rw [uu (.inl hb8')], M.bel⟩
 ·
  have hb8' := bne_eq_false_iff_eq.1 hb8
  refine sdc A za hb8 λa A↦?_
  refine sdm A λa A↦?_
  refine sdo (v := pA g2 1) A (qe zac rfl rfl) λa A↦?_
  refine sdo A (zq M o93 rfl 1 rfl rfl) λa A↦?_
  refine sdo (v := pA g4 1) A (qe zac rfl rfl) λa A↦?_
  refine sdo A (zq M o93 rfl 0 rfl rfl) λa A↦?_
  rcases tf ((t.d.n != u.d.n)) with hb10 | hb10
  ·
   have hb10' := bne_iff_ne.1 hb10
   refine sdc A za hb10 λa A↦?_
   refine sdk (v := bV true) A λa A↦?_
   refine sdm A λa A↦?_
   iterate 5 refine qf A rfl rfl rfl λa A↦?_
   refine sdk (v := bV true) A λa A↦?_
   refine sdm A λa A↦?_
   iterate 7 refine qf A rfl rfl rfl λa A↦?_
   refine sdk (v := bV true) A λa A↦?_
   refine sdm A λa A↦?_
   iterate 7 refine qf A rfl rfl rfl λa A↦?_
   refine sdk (v := bV true) A λa A↦?_
   refine sdm A λa A↦?_
   iterate 6 refine qf A rfl rfl rfl λa A↦?_
   refine sdk (v := bV true) A λa A↦?_
   refine qa (hK7 _ _ (ct A ?_))
   refine wsk fun K11 hK11 => wrl (sda A λa A↦?_)
   refine qa (hK11 _ _ (wr1 hret A ?_))
   exact ⟨by rw [uu (.inr (.inl hb10'))], M.bel⟩
  ·
   have hb10' := bne_eq_false_iff_eq.1 hb10
   refine sdc A za hb10 λa A↦?_
   refine sdk (v := bV false) A λa A↦?_
   refine sdm A λa A↦?_
   refine sdo (v := pA g2 8) A (qe zad rfl rfl) λa A↦?_
   refine sdo A (zq M o99 rfl 1 rfl rfl) λa A↦?_
   refine sdo (v := pA g4 8) A (qe zad rfl rfl) λa A↦?_
   refine sdo A (zq M o99 rfl 0 rfl rfl) λa A↦?_
   rcases tf (decide (t.d.s = u.d.s)) with hb12 | hb12
   ·
    have hb12' := of_decide_eq_true hb12
    refine sdo (v := bV false) A (qb rfl rfl (fun w => (qte Tryz.underlying9 w).trans (by rw [hb12] <;> rfl))) λa A↦?_
    refine sdk (v := bV false) A λa A↦?_
    refine sdm A λa A↦?_
    refine sdo (v := pA g2 9) A (qe qkb rfl rfl) λa A↦?_
    refine sdo A (zq M qmf rfl 1 rfl rfl) λa A↦?_
    refine sdo A (zv Tryz.underlying27 rfl) λa A↦?_
    refine sdo (v := pA g4 9) A (qe qkb rfl rfl) λa A↦?_
    refine sdo A (zq M qmf rfl 0 rfl rfl) λa A↦?_
    refine sdo A (zv Tryz.underlying27 rfl) λa A↦?_
    rcases tf ((((t.d.rl.length : Nat) : Int) != ((u.d.rl.length : Nat) : Int))) with hb13 | hb13
    ·
     have hb13' := bne_iff_ne.1 hb13
     refine sdc A za hb13 λa A↦?_
     refine sdk (v := bV true) A λa A↦?_
     refine sdm A λa A↦?_
     iterate 7 refine qf A rfl rfl rfl λa A↦?_
     refine sdk (v := bV true) A λa A↦?_
     refine sdm A λa A↦?_
     iterate 6 refine qf A rfl rfl rfl λa A↦?_
     refine sdk (v := bV true) A λa A↦?_
     refine qa (hK7 _ _ (ct A ?_))
     refine wsk fun K14 hK14 => wrl (sda A λa A↦?_)
     refine qa (hK14 _ _ (wr1 hret A ?_))
     exact ⟨by rw [uu (.inr (.inr (.inr (.inl (fun e => hb13' (by rw [e]))))))], M.bel⟩
    ·
     have hb13' := bne_eq_false_iff_eq.1 hb13
     refine sdc A za hb13 λa A↦?_
     refine sdk (v := bV false) A λa A↦?_
     refine sdm A λa A↦?_
     refine sdo (v := pA g2 10) A (qe kv rfl rfl) λa A↦?_
     refine sdo A (zq M qib rfl 1 rfl rfl) λa A↦?_
     refine sdo A (zv Tryz.underlying28 rfl) λa A↦?_
     refine sdo (v := pA g4 10) A (qe kv rfl rfl) λa A↦?_
     refine sdo A (zq M qib rfl 0 rfl rfl) λa A↦?_
     refine sdo A (zv Tryz.underlying28 rfl) λa A↦?_
     rcases tf ((((t.ts.length : Nat) : Int) != ((u.ts.length : Nat) : Int))) with hb15 | hb15
     ·
      have hb15' := bne_iff_ne.1 hb15
      refine sdc A za hb15 λa A↦?_
      refine sdk (v := bV true) A λa A↦?_
      refine sdm A λa A↦?_
      iterate 6 refine qf A rfl rfl rfl λa A↦?_
      refine sdk (v := bV true) A λa A↦?_
      refine qa (hK7 _ _ (ct A ?_))
      refine wsk fun K16 hK16 => wrl (sda A λa A↦?_)
      refine qa (hK16 _ _ (wr1 hret A ?_))
      exact ⟨by rw [uu (.inr (.inr (.inr (.inr (.inl (fun e => hb15' (by rw [e])))))))], M.bel⟩
     ·
      have hb15' := bne_eq_false_iff_eq.1 hb15
      refine sdc A za hb15 λa A↦?_
      refine sdk (v := bV false) A λa A↦?_
      refine sdm A λa A↦?_
      refine sdo (v := pA g2 2) A (qe zab rfl rfl) λa A↦?_
      refine sdo A (vf M zvi rfl 1 rfl (cs := [bV t.d.y.q.b1, .slice t.d.y.o1 t.d.y.q.t1.length t.d.y.c1, .slice t.d.y.o2 t.d.y.q.q1.length t.d.y.c2, bV t.d.y.q.b2, .slice t.d.y.o3 t.d.y.q.t2.length t.d.y.c3, .slice t.d.y.o4 t.d.y.q.q2.length t.d.y.c4]) rfl rfl) λa A↦?_
      refine sdo (v := pA g4 2) A (qe zab rfl rfl) λa A↦?_
      refine sdo A (vf M zvi rfl 0 rfl (cs := [bV u.d.y.q.b1, .slice u.d.y.o1 u.d.y.q.t1.length u.d.y.c1, .slice u.d.y.o2 u.d.y.q.q1.length u.d.y.c2, bV u.d.y.q.b2, .slice u.d.y.o3 u.d.y.q.t2.length u.d.y.c3, .slice u.d.y.o4 u.d.y.q.q2.length u.d.y.c4]) rfl rfl) λa A↦?_
      rcases tf (SQ2 t u) with hb17 | hb17
      ·
       refine gcl A M (ef rfl rfl) (qma (Dt.keep M.bel _ ht) (Dt.keep M.bel _ hu) hb17) fun w19 hb18 M a A => ?_
       refine sdo (v := bV false) A (zi rfl zr) λa A↦?_
       refine sdk (v := bV false) A λa A↦?_
       refine qa (hK7 _ _ (cf A ?_))
       refine wp_skip (hK6 _ _ (wsk fun K20 hK20 => wsk fun K21 hK21 => wrl (sda A λa A↦?_)))
       refine qa (hK21 _ _ (wp_block (js (fun m_ a w1 => ∃ (i : Nat), m_ = 1 + (t.d.rl.length - i) ∧ (i ≤ t.d.rl.length ∧ ∀ j, j < i → t.d.rl.getD j 0 = u.d.rl.getD j 0) ∧ Sl a 89 [(0, .agg (t.d.cells t.ts.length).toArray), (1, .agg (u.d.cells u.ts.length).toArray), (2, pA g2 0), (3, pA g4 0), (5, iV (((i : Nat) : Int))), (7, pA g2 0), (8, iV t.d.k), (9, pA g4 0), (10, iV u.d.k), (11, bV false), (12, bV false), (13, pA g2 1), (14, iV t.d.n), (15, pA g4 1), (16, iV u.d.n), (17, bV false), (18, bV false), (19, bV false), (20, pA g2 8), (21, .string t.d.s), (22, pA g4 8), (23, .string u.d.s), (24, bV false), (25, bV false), (26, bV false), (27, pA g2 9), (28, .slice t.d.ro t.d.rl.length t.d.rc), (29, iV (((t.d.rl.length : Nat) : Int))), (30, pA g4 9), (31, .slice u.d.ro u.d.rl.length u.d.rc), (32, iV (((u.d.rl.length : Nat) : Int))), (33, bV false), (34, bV false), (35, bV false), (36, pA g2 10), (37, .slice t.d.lo t.ts.length t.d.lc), (38, iV (((t.ts.length : Nat) : Int))), (39, pA g4 10), (40, .slice u.d.lo u.ts.length u.d.lc), (41, iV (((u.ts.length : Nat) : Int))), (42, bV false), (43, bV false), (44, bV false), (45, pA g2 2), (46, .agg #[bV t.d.y.q.b1, .slice t.d.y.o1 t.d.y.q.t1.length t.d.y.c1, .slice t.d.y.o2 t.d.y.q.q1.length t.d.y.c2, bV t.d.y.q.b2, .slice t.d.y.o3 t.d.y.q.t2.length t.d.y.c3, .slice t.d.y.o4 t.d.y.q.q2.length t.d.y.c4]), (47, pA g4 2), (48, .agg #[bV u.d.y.q.b1, .slice u.d.y.o1 u.d.y.q.t1.length u.d.y.c1, .slice u.d.y.o2 u.d.y.q.q1.length u.d.y.c2, bV u.d.y.q.b2, .slice u.d.y.o3 u.d.y.q.t2.length u.d.y.c3, .slice u.d.y.o4 u.d.y.q.q2.length u.d.y.c4]), (49, bV true), (50, bV false), (51, bV false)] ∧ Mg w w1 (.obj g4 (.cells (u.d.cells u.ts.length).toArray 30) :: .obj g2 (.cells (t.d.cells t.ts.length).toArray 30) :: [])) _ ⟨0, rfl, ⟨Nat.zero_le _, fun j hj => absurd hj (Nat.not_lt_zero _)⟩, A.keep _ (by repeat' constructor), M⟩ ?_)))
       clear M A
       rintro m_ a w22 ⟨i, rfl, hinv24, A, M⟩ K23 hK23
       obtain ⟨hi0, hin8⟩ := hinv24
       refine wsk fun K25 hK25 => wsk fun K26 hK26 => wrl (sdm A λa A↦?_)
       refine sdo (v := pA g2 9) A (qe qkb rfl rfl) λa A↦?_
       refine sdo A (zq M qmf rfl 1 rfl rfl) λa A↦?_
       refine sdo A (zv Tryz.underlying27 rfl) λa A↦?_
       rcases tf (decide (((i : Nat) : Int) < ((t.d.rl.length : Nat) : Int))) with hb27 | hb27
       ·
        have hb27' := of_decide_eq_true hb27
        refine sdc A jk hb27 λa A↦?_
        refine qa (hK26 _ _ (ct A ?_))
        refine wp_skip (hK25 _ _ (wsk fun K28 hK28 => wp_block (wsk fun K29 hK29 => zj (S := fun w1 => Mg w w1 (.obj g4 (.cells (u.d.cells u.ts.length).toArray 30) :: .obj g2 (.cells (t.d.cells t.ts.length).toArray 30) :: [])) (by kernel_rfl) ?_)))
        replace M := M.drew
        refine atk (v := pA g2 9) A 0 rfl hP (M.sub (cc (cc ns))) (λ_ M↦qe qkb rfl rfl) λa A↦?_
        refine atk A 1 rfl hP (M.sub (cc (cc ns))) (λ_ M↦zq M qmf rfl 1 rfl rfl) λa A↦?_
        refine atk A 2 rfl hP (M.sub (cc (cc ns))) (λ_ M↦qy rfl) λa A↦?_
        obtain ⟨bt, ot, ht1, ht2, ht3⟩ := zhe (i := i) (Dt.okT ht).1.raw (by omega)
        refine atk (v := pA bt (ot + i)) A 3 rfl hP (M.sub (cc (cc ns))) (λ_ M↦jd (k := i) Tryz.underlying27 (by kernel_rfl) rfl rfl rfl ht1 (by omega)) λa A↦?_
        refine atk A 4 rfl hP (M.sub (cc (cc ns))) (λ_ M↦zfe M ht2 (ht3 i (by omega)) o95 rfl) λa A↦?_
        refine atk (v := pA g4 9) A 5 rfl hP (M.sub (cc (cc ns))) (λ_ M↦qe qkb rfl rfl) λa A↦?_
        refine atk A 6 rfl hP (M.sub (cc (cc ns))) (λ_ M↦zq M qmf rfl 0 rfl rfl) λa A↦?_
        refine atk A 7 rfl hP (M.sub (cc (cc ns))) (λ_ M↦qy rfl) λa A↦?_
        obtain ⟨bu, ou, hu1, hu2, hu3⟩ := zhe (i := i) (Dt.okT hu).1.raw (by omega)
        refine atk (v := pA bu (ou + i)) A 8 rfl hP (M.sub (cc (cc ns))) (λ_ M↦jd (k := i) Tryz.underlying27 (by kernel_rfl) rfl rfl rfl hu1 (by omega)) λa A↦?_
        refine atk A 9 rfl hP (M.sub (cc (cc ns))) (λ_ M↦zfe M hu2 (hu3 i (by omega)) o95 rfl) λa A↦?_
        rcases tf (((((t.d.rl.getD i 0).toNat : Nat) : Int) != (((u.d.rl.getD i 0).toNat : Nat) : Int))) with hb30 | hb30
        ·
         have hb30' := bne_iff_ne.1 hb30
         refine atk (v := bV true) A 10 rfl hP (M.sub (cc (cc ns))) (λ_ M↦qb rfl rfl (fun w => (za w).trans (by rw [hb30]))) λa A↦?_
         refine qs (by kernel_rfl) ?_
         refine hK29 _ _ (ct A ?_)
         refine wsk fun K31 hK31 => wrl (sda A λa A↦?_)
         refine qa (hK31 _ _ (wr1 hret A ?_))
         exact ⟨by rw [uu (.inr (.inr (.inr (.inl (jhe hb30')))))], M.bel⟩
        ·
         have hb30' := bne_eq_false_iff_eq.1 hb30
         refine atk (v := bV false) A 10 rfl hP (M.sub (cc (cc ns))) (λ_ M↦qb rfl rfl (fun w => (za w).trans (by rw [hb30]))) λa A↦?_
         refine qs (by kernel_rfl) ?_
         refine hK29 _ _ (cf A ?_)
         refine wp_skip (hK28 _ _ (wrl (sdm A λa A↦?_)))
         refine sdo (v := iV (((i + 1 : Nat) : Int))) A (qb rfl rfl (fun w => (yk (qaa (by omega) (by omega)) w).trans (by rw [show (((i : Nat) : Int) + 1 : Int) = ((i + 1 : Nat) : Int) from by omega]))) λa A↦?_
         refine sda A λa A↦?_
         refine qa ?_
         refine hK23 _ _ _ (by omega) ⟨i + 1, rfl, ⟨by omega, fun j hj => if h9 : j < i then hin8 j h9 else by have h8 : j = i := (by omega); subst h8; exact jhf hb30'⟩, A.keep _ (by repeat' constructor), M⟩
       ·
        have hb27' := of_decide_eq_false hb27
        refine sdc A jk hb27 λa A↦?_
        refine qa (hK26 _ _ (cf A ?_))
        refine wp_exit (hK20 _ _ (wsk fun K32 hK32 => wsk fun K33 hK33 => wrl (sda A λa A↦?_)))
        refine qa (hK33 _ _ (wp_block ?_))
        have hrl : t.d.rl = u.d.rl := zlf (by omega) (fun j hj => hin8 j (by omega))
        have hsy := ztd hb8' hb10' hb12' hrl (by omega) hb17
        refine js (fun m_ a w1 => ∃ (j : Nat), m_ = 1 + (t.ts.length - j) ∧ (j ≤ t.ts.length ∧ kw (t.ts.map Dt.tr) (u.ts.map Dt.tr) = kw ((t.ts.map Dt.tr).drop j) ((u.ts.map Dt.tr).drop j)) ∧ Sl a 89 [(0, .agg (t.d.cells t.ts.length).toArray), (1, .agg (u.d.cells u.ts.length).toArray), (2, pA g2 0), (3, pA g4 0), (5, iV (((i : Nat) : Int))), (6, iV (((j : Nat) : Int))), (7, pA g2 0), (8, iV t.d.k), (9, pA g4 0), (10, iV u.d.k), (11, bV false), (12, bV false), (13, pA g2 1), (14, iV t.d.n), (15, pA g4 1), (16, iV u.d.n), (17, bV false), (18, bV false), (19, bV false), (20, pA g2 8), (21, .string t.d.s), (22, pA g4 8), (23, .string u.d.s), (24, bV false), (25, bV false), (26, bV false), (27, pA g2 9), (28, .slice t.d.ro t.d.rl.length t.d.rc), (29, iV (((t.d.rl.length : Nat) : Int))), (30, pA g4 9), (31, .slice u.d.ro u.d.rl.length u.d.rc), (32, iV (((u.d.rl.length : Nat) : Int))), (33, bV false), (34, bV false), (35, bV false), (36, pA g2 10), (37, .slice t.d.lo t.ts.length t.d.lc), (38, iV (((t.ts.length : Nat) : Int))), (39, pA g4 10), (40, .slice u.d.lo u.ts.length u.d.lc), (41, iV (((u.ts.length : Nat) : Int))), (42, bV false), (43, bV false), (44, bV false), (45, pA g2 2), (46, .agg #[bV t.d.y.q.b1, .slice t.d.y.o1 t.d.y.q.t1.length t.d.y.c1, .slice t.d.y.o2 t.d.y.q.q1.length t.d.y.c2, bV t.d.y.q.b2, .slice t.d.y.o3 t.d.y.q.t2.length t.d.y.c3, .slice t.d.y.o4 t.d.y.q.q2.length t.d.y.c4]), (47, pA g4 2), (48, .agg #[bV u.d.y.q.b1, .slice u.d.y.o1 u.d.y.q.t1.length u.d.y.c1, .slice u.d.y.o2 u.d.y.q.q1.length u.d.y.c2, bV u.d.y.q.b2, .slice u.d.y.o3 u.d.y.q.t2.length u.d.y.c3, .slice u.d.y.o4 u.d.y.q.q2.length u.d.y.c4]), (49, bV true), (50, bV false), (51, bV false), (52, iV (((i : Nat) : Int))), (53, pA g2 9), (54, .slice t.d.ro t.d.rl.length t.d.rc), (55, iV (((t.d.rl.length : Nat) : Int))), (56, bV false)] ∧ Mg w w1 (.obj g4 (.cells (u.d.cells u.ts.length).toArray 30) :: .obj g2 (.cells (t.d.cells t.ts.length).toArray 30) :: [])) _ ⟨0, rfl, ⟨Nat.zero_le _, rfl⟩, A.keep _ (by repeat' constructor), M⟩ ?_
        clear M A
        rintro m_ a w34 ⟨j, rfl, hinv36, A, M⟩ K35 hK35
        obtain ⟨hi1, hin9⟩ := hinv36
        refine wsk fun K37 hK37 => wsk fun K38 hK38 => wrl (sdm A λa A↦?_)
        refine sdo (v := pA g2 10) A (qe kv rfl rfl) λa A↦?_
        refine sdo A (zq M qib rfl 1 rfl rfl) λa A↦?_
        refine sdo A (zv Tryz.underlying28 rfl) λa A↦?_
        rcases tf (decide (((j : Nat) : Int) < ((t.ts.length : Nat) : Int))) with hb39 | hb39
        ·
         have hb39' := of_decide_eq_true hb39
         refine sdc A jk hb39 λa A↦?_
         refine qa (hK38 _ _ (ct A ?_))
         refine wp_skip (hK37 _ _ (wsk fun K40 hK40 => wp_block (wsk fun K41 hK41 => ?_)))
         obtain ⟨t1, bt1, ot1, it1, mt1, rt1_, lt1, Ht1⟩ := zwe ht (i := j) (by omega)
         obtain ⟨u1, bu1, ou1, iu1, mu1, ru1_, lu1, Hu1⟩ := zwe hu (i := j) (by omega)
         refine zj (S := fun w1 => Mg w w1 (.obj g4 (.cells (u.d.cells u.ts.length).toArray 30) :: .obj g2 (.cells (t.d.cells t.ts.length).toArray 30) :: [])) (by kernel_rfl) ?_
         replace M := M.drew
         refine atk (v := pA g2 10) A 0 rfl hP (M.sub (cc (cc ns))) (λ_ M↦qe kv rfl rfl) λa A↦?_
         refine atk A 1 rfl hP (M.sub (cc (cc ns))) (λ_ M↦zq M qib rfl 1 rfl rfl) λa A↦?_
         refine atk A 2 rfl hP (M.sub (cc (cc ns))) (λ_ M↦qy rfl) λa A↦?_
         refine atk (v := pA bt1 (ot1 + j * 11)) A 3 rfl hP (M.sub (cc (cc ns))) (λ_ M↦xk (k := j) Tryz.underlying28 (by kernel_rfl) rfl rfl rfl lt1 (by omega)) λa A↦?_
         refine atk A 4 rfl hP (M.sub (cc (cc ns))) (λ_ M↦qtf M Ht1 xz rfl rfl) λa A↦?_
         refine atk (v := pA g4 10) A 5 rfl hP (M.sub (cc (cc ns))) (λ_ M↦qe kv rfl rfl) λa A↦?_
         refine atk A 6 rfl hP (M.sub (cc (cc ns))) (λ_ M↦zq M qib rfl 0 rfl rfl) λa A↦?_
         refine atk A 7 rfl hP (M.sub (cc (cc ns))) (λ_ M↦qy rfl) λa A↦?_
         refine atk (v := pA bu1 (ou1 + j * 11)) A 8 rfl hP (M.sub (cc (cc ns))) (λ_ M↦xk (k := j) Tryz.underlying28 (by kernel_rfl) rfl rfl rfl lu1 (by omega)) λa A↦?_
         refine atk A 9 rfl hP (M.sub (cc (cc ns))) (λ_ M↦qtf M Hu1 xz rfl rfl) λa A↦?_
         rcases tf (uf t1.tr u1.tr) with hb42 | hb42
         ·
          refine zh (by kernel_rfl) (zt A 10 rfl rfl rfl rfl (ef rfl rfl) ((hb42 ▸ ih (by have := jac mt1; omega) (Dt.keep M.bel _ rt1_) (Dt.keep M.bel _ ru1_))) ?_)
          rintro _ w44 ⟨rfl, hb43⟩
          replace M := M.call hb43
          refine ⟨_, rfl, (M.sub (cc (cc ns))), ?_⟩
          intro a A
          refine atk (v := bV false) A 11 rfl hP (M.sub (cc (cc ns))) (λ_ M↦zi rfl zr) λa A↦?_
          refine qs (by kernel_rfl) ?_
          refine hK41 _ _ (cf A ?_)
          refine wp_skip (hK40 _ _ (wrl (sdm A λa A↦?_)))
          refine sdo (v := iV (((j + 1 : Nat) : Int))) A (qb rfl rfl (fun w => (yk (qaa (by omega) (by omega)) w).trans (by rw [show (((j : Nat) : Int) + 1 : Int) = ((j + 1 : Nat) : Int) from by omega]))) λa A↦?_
          refine sda A λa A↦?_
          refine qa ?_
          refine hK35 _ _ _ (by omega) ⟨j + 1, rfl, ⟨by omega, by rw [hin9, qya it1 iu1, hb42, Bool.true_and]⟩, A.keep _ (by repeat' constructor), M⟩
         ·
          refine zh (by kernel_rfl) (zt A 10 rfl rfl rfl rfl (ef rfl rfl) ((hb42 ▸ ih (by have := jac mt1; omega) (Dt.keep M.bel _ rt1_) (Dt.keep M.bel _ ru1_))) ?_)
          rintro _ w46 ⟨rfl, hb45⟩
          replace M := M.call hb45
          refine ⟨_, rfl, (M.sub (cc (cc ns))), ?_⟩
          intro a A
          refine atk (v := bV true) A 11 rfl hP (M.sub (cc (cc ns))) (λ_ M↦zi rfl zr) λa A↦?_
          refine qs (by kernel_rfl) ?_
          refine hK41 _ _ (ct A ?_)
          refine wsk fun K47 hK47 => wrl (sda A λa A↦?_)
          refine qa (hK47 _ _ (wr1 hret A ?_))
          exact ⟨by rw [hsy, hin9, qya it1 iu1, hb42]; rfl, M.bel⟩
        ·
         have hb39' := of_decide_eq_false hb39
         refine sdc A jk hb39 λa A↦?_
         refine qa (hK38 _ _ (cf A ?_))
         refine wp_exit (hK32 _ _ (wsk fun K48 hK48 => wrl (sda A λa A↦?_)))
         refine qa (hK48 _ _ (wr1 hret A ?_))
         exact ⟨by rw [hsy, hin9, zle (by omega)], M.bel⟩
      ·
       refine gcl A M (ef rfl rfl) (qma (Dt.keep M.bel _ ht) (Dt.keep M.bel _ hu) hb17) fun w50 hb49 M a A => ?_
       refine sdo (v := bV true) A (zi rfl zr) λa A↦?_
       refine sdk (v := bV true) A λa A↦?_
       refine qa (hK7 _ _ (ct A ?_))
       refine wsk fun K51 hK51 => wrl (sda A λa A↦?_)
       refine qa (hK51 _ _ (wr1 hret A ?_))
       exact ⟨by rw [uu (.inr (.inr (.inr (.inr (.inr hb17)))))], M.bel⟩
   ·
    have hb12' := of_decide_eq_false hb12
    refine sdo (v := bV true) A (qb rfl rfl (fun w => (qte Tryz.underlying9 w).trans (by rw [hb12] <;> rfl))) λa A↦?_
    refine sdk (v := bV true) A λa A↦?_
    refine sdm A λa A↦?_
    iterate 7 refine qf A rfl rfl rfl λa A↦?_
    refine sdk (v := bV true) A λa A↦?_
    refine sdm A λa A↦?_
    iterate 7 refine qf A rfl rfl rfl λa A↦?_
    refine sdk (v := bV true) A λa A↦?_
    refine sdm A λa A↦?_
    iterate 6 refine qf A rfl rfl rfl λa A↦?_
    refine sdk (v := bV true) A λa A↦?_
    refine qa (hK7 _ _ (ct A ?_))
    refine wsk fun K52 hK52 => wrl (sda A λa A↦?_)
    refine qa (hK52 _ _ (wr1 hret A ?_))
    exact ⟨by rw [uu (.inr (.inr (.inl hb12')))], M.bel⟩
theorem qmb : ∀ n, RSames n
 | 0 => fun h => absurd h (Nat.not_lt_zero _)
 | n + 1 => qyc (qmb n)
theorem zte {w : World} {t u : Dt} {b : Bool} (ht : t.rd w) (hu : u.rd w) (h : uf t.tr u.tr = b) : Calls Tryz.prog 12 #[.agg (t.d.cells t.ts.length).toArray, .agg (u.d.cells u.ts.length).toArray] w fun e w' => e = .returned (bV b) ∧ Below w.heap.size w w' := h ▸ qmb (t.tr.bulk + 1) (Nat.lt_succ_self _) ht hu
section
variable {P : Program} {md : Region.Mode} {ops : List Oper} {Q : Exit → Act → World → Prop} {S : World → Prop} {fuel : Nat} {listed : Array Bool} {a : Act} {w w' : World} {n : Nat} {l : List (Nat × Value)} {o : Oper} {v : Value}
end
theorem qcd {W : World} {n nm : String} {d : DataW Unit} {g t : Nat} {ms : Array (String × TypeId)} (hg : Tryz.prog.globalNamed n = some g) (ht : (Tryz.prog.globals[g]?).map (·.type) = some t) (hi : Tryz.prog.underlying t = some (.interface ms)) (h : Lib.VarReads Tryz.prog W n (.iface nm d)) :
  ∃ ev : Value, W.cell? ⟨g, 0, none⟩ = some ev ∧ (ev = .nilIface ∨ ∃ te pe, ev = .iface te pe) := by
 obtain ⟨g', t', cs, fuel, p, h1, h2, h3, h4⟩ := h
 obtain rfl : g' = g := Option.some.inj (h1.symm.trans hg)
 obtain rfl : t' = t := Option.some.inj (h2.symm.trans ht)
 obtain ⟨_, u, v, hc, _⟩ := iface_of_trod hi h4
 refine ⟨.iface u v, ?_, .inr ⟨u, v, rfl⟩⟩
 rw [World.var?_cell h1 h3 0, ← Array.getElem?_toList, hc]
 rfl
theorem jhg {W : World} (h : World.ShapedOpen Tryz.prog W) : ∃ m : Int, W.cell? ⟨Tryz.lays145_ren.g 1, 0, none⟩ = some (iV m) := by
 obtain ⟨ha, _⟩ := h
 obtain ⟨cs, h1, h2, h3⟩ := ha 2 #[iV 0] 3 (of_decide_eq_true (by kernel_rfl)) (by kernel_rfl)
 obtain ⟨ts, e1, _, e2⟩ := h3 (by kernel_rfl)
 have ets : ts = [3] := Option.some.inj (e1.symm.trans (by kernel_rfl))
 subst ets
 have h0 : 0 < cs.size := by rw [h2]; exact Nat.one_pos
 obtain ⟨u, hu, ho⟩ := e2 0 cs[0] (Array.getElem?_eq_getElem h0)
 obtain rfl : 3 = u := Option.some.inj hu
 have hc : W.cell? ⟨2, 0, none⟩ = some cs[0] := by
  simp only [World.cell?, h1]
  exact Array.getElem?_eq_getElem h0
 unfold Cell.ok at ho
 rw [Tryz.underlying3] at ho
 generalize cs[0] = v at hc ho
 cases v with
 | int k n =>
  obtain ⟨e, _⟩ := ho
  cases e
  exact ⟨n, hc⟩
 | _ => exact absurd ho id
theorem jdh {W : World} (hT : Tb W) (hR : Lib.VarReads Tryz.prog W "strconv.ErrRange" Rows.laid_strconv_ErrRange) (S : Lib.VarReads Tryz.prog W "strconv.ErrSyntax" Rows.laid_strconv_ErrSyntax) (hO : World.ShapedOpen Tryz.prog W) : Env W :=
 ⟨hT, ⟨qcd (by kernel_rfl) (by kernel_rfl) Tryz.underlying85 S, qcd (by kernel_rfl) (by kernel_rfl) Tryz.underlying85 hR⟩, jhg hO⟩
theorem qdd {l p : List UInt8} (h : Lib.hasPrefix l p = true) : p.length ≤ l.length := (List.isPrefixOf_iff_prefix.1 h).length_le
theorem qog {l p : List UInt8} {b : UInt8} (h : Lib.hasPrefix l (b :: p) = true) : l ≠ [] := by rintro rfl; cases h
theorem zhf {f : Nat} {l : List UInt8} {r : Tr × Nat × Bool} (h : dat f l = some r) : 1 ≤ r.2.1 ∧ l ≠ [] := by
 cases f with
 | zero => rw [dat] at h; cases h
 | succ f =>
  rw [dat] at h
  by_cases c1 : Lib.hasPrefix l [40] = true
  ·
   rw [if_pos c1] at h; obtain ⟨x, _, rfl⟩ := Option.map_eq_some_iff.1 h; exact ⟨Nat.le_add_left 1 _, qog c1⟩
  rw [if_neg c1] at h
  by_cases c2 : Lib.hasPrefix l [91] = true
  ·
   rw [if_pos c2] at h; obtain ⟨x, _, rfl⟩ := Option.map_eq_some_iff.1 h; exact ⟨Nat.le_add_left 1 _, qog c2⟩
  rw [if_neg c2] at h
  by_cases c3 : Lib.hasPrefix l [35, 40] = true
  ·
   rw [if_pos c3] at h; obtain ⟨x, _, rfl⟩ := Option.map_eq_some_iff.1 h; exact ⟨by show 1 ≤ x.2.1 + 2; omega, qog c3⟩
  rw [if_neg c3] at h
  by_cases c4 : Lib.hasPrefix l [35, 118, 117, 56, 40] = true
  ·
   rw [if_pos c4] at h
   obtain ⟨x, _, h⟩ := Option.bind_eq_some_iff.1 h
   obtain ⟨y, _, rfl⟩ := Option.map_eq_some_iff.1 h
   exact ⟨by show 1 ≤ x.2.1 + 5; omega, qog c4⟩
  rw [if_neg c4] at h
  by_cases c5 : Lib.hasPrefix l [39] = true
  ·
   rw [if_pos c5] at h
   obtain ⟨x, _, h⟩ := Option.bind_eq_some_iff.1 h
   obtain ⟨y, _, rfl⟩ := Option.map_eq_some_iff.1 h
   exact ⟨by show 1 ≤ 1 + x + y.2.1; omega, qog c5⟩
  rw [if_neg c5] at h
  by_cases c6 : Lib.hasPrefix l [34] = true
  ·
   rw [if_pos c6] at h
   obtain ⟨x, _, rfl⟩ := Option.map_eq_some_iff.1 h
   exact ⟨by show 1 ≤ 1 + x.2; omega, qog c6⟩
  rw [if_neg c6] at h
  unfold qmj at h
  by_cases c7 : tkX l = []
  ·
   rw [if_pos c7] at h; cases h
  ·
   rw [if_neg c7] at h
   obtain ⟨x, _, rfl⟩ := Option.map_eq_some_iff.1 h
   exact ⟨List.length_pos_iff.2 c7, fun k => c7 (by rw [k]; rfl)⟩
theorem ztf {l : List UInt8} (h : C.blankB (((dcX l).1 : Nat) : Int) = true) : l ≠ [] := by
 rintro rfl
 revert h
 decide
theorem qmc : ∀ f g : Nat, (∀ l, 2 * List.length l + 1 ≤ f → 2 * List.length l + 1 ≤ g → skp f l = skp g l) ∧ (∀ l, 2 * List.length l + 1 ≤ f → 2 * List.length l + 1 ≤ g → dat f l = dat g l) ∧ (∀ e l, 2 * List.length l + 2 ≤ f → 2 * List.length l + 2 ≤ g → itm f e l = itm g e l) ∧ (∀ e h l, 2 * List.length l + 2 ≤ f → 2 * List.length l + 2 ≤ g → lst f e h l = lst g e h l)
 | 0, g => ⟨fun _ h _ => by omega, fun _ h _ => by omega, fun _ _ h _ => by omega, fun _ _ _ h _ => by omega⟩
 | f + 1, 0 => ⟨fun _ _ h => by omega, fun _ _ h => by omega, fun _ _ _ h => by omega, fun _ _ _ _ h => by omega⟩
 | f + 1, g + 1 => by
  obtain ⟨hs, hd, hi, hl⟩ := qmc f g
  refine ⟨fun l h1 h2 => ?_, fun l h1 h2 => ?_, fun e l h1 h2 => ?_, fun e h l h1 h2 => ?_⟩
  ·
   rw [skp, skp]
   by_cases c1 : C.blankB (((dcX l).1 : Nat) : Int) = true
   ·
    have hw := xp (ztf c1)
    rw [if_pos c1, if_pos c1, hs _ (by rw [List.length_drop]; omega) (by rw [List.length_drop]; omega)]
   rw [if_neg c1, if_neg c1]
   by_cases c2 : (((dcX l).1 : Nat) : Int) = 59
   ·
    have h3 := zha c2
    have h4 := zri l
    rw [if_pos c2, if_pos c2, hs _ (by rw [List.length_drop]; omega) (by rw [List.length_drop]; omega)]
   rw [if_neg c2, if_neg c2]
   by_cases c3 : Lib.hasPrefix l [35, 124] = true
   ·
    have h3 : 2 ≤ l.length := qdd c3
    rw [if_pos c3, if_pos c3]
    congr 1
    funext n
    rw [hs _ (by simp only [List.length_drop]; omega) (by simp only [List.length_drop]; omega)]
   rw [if_neg c3, if_neg c3]
   by_cases c4 : Lib.hasPrefix l [35, 59] = true
   ·
    have h3 : 2 ≤ l.length := qdd c4
    have e1 : ∀ m, skp f ((l.drop 2).drop m) = skp g ((l.drop 2).drop m) := fun m => hs _ (by simp only [List.length_drop]; omega) (by simp only [List.length_drop]; omega)
    have e0 : skp f (l.drop 2) = skp g (l.drop 2) := e1 0
    have e2 : ∀ m, dat f ((l.drop 2).drop m) = dat g ((l.drop 2).drop m) := fun m => hd _ (by simp only [List.length_drop]; omega) (by simp only [List.length_drop]; omega)
    rw [if_pos c4, if_pos c4]
    simp only [e0, e1, e2]
   ·
    rw [if_neg c4, if_neg c4]
  ·
   rw [dat, dat]
   by_cases c1 : Lib.hasPrefix l [40] = true
   ·
    have h3 : 1 ≤ l.length := qdd c1
    rw [if_pos c1, if_pos c1, hl _ _ _ (by rw [List.length_drop]; omega) (by rw [List.length_drop]; omega)]
   rw [if_neg c1, if_neg c1]
   by_cases c2 : Lib.hasPrefix l [91] = true
   ·
    have h3 : 1 ≤ l.length := qdd c2
    rw [if_pos c2, if_pos c2, hl _ _ _ (by rw [List.length_drop]; omega) (by rw [List.length_drop]; omega)]
   rw [if_neg c2, if_neg c2]
   by_cases c3 : Lib.hasPrefix l [35, 40] = true
   ·
    have h3 : 2 ≤ l.length := qdd c3
    rw [if_pos c3, if_pos c3, hi _ _ (by rw [List.length_drop]; omega) (by rw [List.length_drop]; omega)]
   rw [if_neg c3, if_neg c3]
   by_cases c4 : Lib.hasPrefix l [35, 118, 117, 56, 40] = true
   ·
    have h3 : 5 ≤ l.length := qdd c4
    rw [if_pos c4, if_pos c4, hi _ _ (by rw [List.length_drop]; omega) (by rw [List.length_drop]; omega)]
   rw [if_neg c4, if_neg c4]
   by_cases c5 : Lib.hasPrefix l [39] = true
   ·
    have h3 : 1 ≤ l.length := qdd c5
    rw [if_pos c5, if_pos c5, hs _ (by rw [List.length_drop]; omega) (by rw [List.length_drop]; omega)]
    congr 1
    funext n
    rw [hd _ (by simp only [List.length_drop]; omega) (by simp only [List.length_drop]; omega)]
   rw [if_neg c5, if_neg c5]
  ·
   rw [itm, itm, hs l (by omega) (by omega)]
   cases hm : moK e l (skp g l) with
   | none => rfl
   | some m =>
    show (if m.1 = true then _ else _ : Option (List Tr × Nat × Bool)) = if m.1 = true then _ else _
    by_cases c : m.1 = true
    ·
     rw [if_pos c, if_pos c, hd (l.drop m.2) (by rw [List.length_drop]; omega) (by rw [List.length_drop]; omega)]
     cases hq : dat g (l.drop m.2) with
     | none => rfl
     | some r =>
      obtain ⟨k1, k2⟩ := zhf hq
      have k3 := List.length_pos_iff.2 k2
      rw [List.length_drop] at k3
      show (itm f e ((l.drop m.2).drop r.2.1)).map _ = (itm g e ((l.drop m.2).drop r.2.1)).map _
      rw [hi e _ (by simp only [List.length_drop]; omega) (by simp only [List.length_drop]; omega)]
    ·
     rw [if_neg c, if_neg c]
  ·
   rw [lst, lst, hs l (by omega) (by omega)]
   cases hm : moK e l (skp g l) with
   | none => rfl
   | some m =>
    show (if m.1 = true then _ else _ : Option (List Tr × Tr × Nat × Bool)) = if m.1 = true then _ else _
    by_cases c : m.1 = true
    ·
     rw [if_pos c, if_pos c]
     by_cases d : qia (l.drop m.2) = true
     ·
      rw [if_pos d, if_pos d]
      by_cases hh : h = true
      ·
       rw [if_pos hh, if_pos hh]
      rw [if_neg hh, if_neg hh, hs ((l.drop m.2).drop 1) (by simp only [List.length_drop]; omega) (by simp only [List.length_drop]; omega)]
      cases skp g ((l.drop m.2).drop 1) with
      | none => rfl
      | some b =>
       show (dat f (((l.drop m.2).drop 1).drop b)).bind _ = (dat g (((l.drop m.2).drop 1).drop b)).bind _
       rw [hd _ (by simp only [List.length_drop]; omega) (by simp only [List.length_drop]; omega)]
       cases dat g (((l.drop m.2).drop 1).drop b) with
       | none => rfl
       | some r =>
        show (moK e _ (skp f ((((l.drop m.2).drop 1).drop b).drop r.2.1))).bind _ = (moK e _ (skp g ((((l.drop m.2).drop 1).drop b).drop r.2.1))).bind _
        rw [hs _ (by simp only [List.length_drop]; omega) (by simp only [List.length_drop]; omega)]
     ·
      rw [if_neg d, if_neg d, hd (l.drop m.2) (by rw [List.length_drop]; omega) (by rw [List.length_drop]; omega)]
      cases hq : dat g (l.drop m.2) with
      | none => rfl
      | some r =>
       obtain ⟨k1, k2⟩ := zhf hq
       have k3 := List.length_pos_iff.2 k2
       rw [List.length_drop] at k3
       show (lst f e false ((l.drop m.2).drop r.2.1)).map _ = (lst g e false ((l.drop m.2).drop r.2.1)).map _
       rw [hl e _ _ (by simp only [List.length_drop]; omega) (by simp only [List.length_drop]; omega)]
    ·
     rw [if_neg c, if_neg c]
def skF (l : List UInt8) : Option Nat := skp (2 * l.length + 1) l
theorem qhb {f : Nat} {l : List UInt8} (h : 2 * l.length + 1 ≤ f) : skp f l = skF l := (qmc _ _).1 _ h (Nat.le_refl _)
theorem ki {l s : List UInt8} {c k : Nat} (h : dcX l = (c, k)) (hb : C.blankB ((c : Nat) : Int) = true) (hd : l.drop k = s) (hk : s.length < l.length) : skF l = (skF s).map (· + k) := by
 unfold skF
 rw [skp, if_pos (by rw [h]; exact hb), h]
 show (skp (2 * l.length) (l.drop k)).map _ = _
 rw [hd, qhb (by omega)]
 rfl
theorem vm {b : UInt8} {s : List UInt8} (h : b.toNat < 128) : dcX (b :: s) = (b.toNat, 1) := by rw [qjf (by simp), Lib.decodeL_ascii b s h]
theorem ztg (s : List UInt8) : skF ([32] ++ s) = (skF s).map (· + 1) := ki (vm (by decide)) (by decide) rfl (by simp)
theorem map_map {o : Option Nat} {a b c : Nat} (h : b + a = c) : (o.map (· + a)).map (· + b) = o.map (· + c) := by
 rw [Option.map_map]
 congr 1
 funext x
 show x + a + b = x + c
 omega
theorem jdi (s : List UInt8) : skF ([9, 10] ++ s) = (skF s).map (· + 2) := by
 rw [show ([9, 10] ++ s : List UInt8) = 9 :: 10 :: s from rfl, ki (vm (by decide)) (by decide) (s := 10 :: s) rfl (by simp), ki (vm (by decide)) (by decide) (s := s) rfl (by simp), map_map rfl]
theorem jja (s : List UInt8) : lnX (59 :: 32 :: 120 :: 10 :: s) = 3 := by
 unfold lnX
 show C.lnN (s.length + 3 + 1) _ = 3
 rw [C.lnN, Lib.decodeL_ascii _ _ (by decide), if_neg (by simp), if_neg (by decide)]
 show 1 + C.lnN (s.length + 2 + 1) (32 :: 120 :: 10 :: s) = 3
 rw [C.lnN, Lib.decodeL_ascii _ _ (by decide), if_neg (by simp), if_neg (by decide)]
 show 1 + (1 + C.lnN (s.length + 1 + 1) (120 :: 10 :: s)) = 3
 rw [C.lnN, Lib.decodeL_ascii _ _ (by decide), if_neg (by simp), if_neg (by decide)]
 show 1 + (1 + (1 + C.lnN (s.length + 1) (10 :: s))) = 3
 rw [C.lnN, Lib.decodeL_ascii _ _ (by decide), if_neg (by simp), if_pos (by decide)]
theorem zzd (s : List UInt8) : skF ([59, 32, 120, 10] ++ s) = (skF s).map (· + 4) := by
 rw [show ([59, 32, 120, 10] ++ s : List UInt8) = 59 :: 32 :: 120 :: 10 :: s from rfl]
 unfold skF
 rw [skp, vm (by decide), if_neg (by decide), if_pos (by decide), jja]
 show (skp _ (10 :: s)).map _ = _
 rw [qhb (by simp; omega), ki (vm (by decide)) (by decide) (s := s) rfl (by simp), map_map rfl]
 rfl
theorem jdj (s : List UInt8) : xm ((32 :: 97 :: 32 :: 35 :: 124 :: 32 :: 98 :: 32 :: 124 :: 35 :: 32 :: 124 :: 35 :: s).length + 1) 1 (32 :: 97 :: 32 :: 35 :: 124 :: 32 :: 98 :: 32 :: 124 :: 35 :: 32 :: 124 :: 35 :: s) = some 13 := by
 show xm (s.length + 14) (0 + 1) _ = _
 simp [xm, Lib.hasPrefix, List.isPrefixOf, vm]
theorem zze (s : List UInt8) : skF ([35, 124, 32, 97, 32, 35, 124, 32, 98, 32, 124, 35, 32, 124, 35] ++ s) = (skF s).map (· + 15) := by
 rw [show ([35, 124, 32, 97, 32, 35, 124, 32, 98, 32, 124, 35, 32, 124, 35] ++ s : List UInt8) = 35 :: 124 :: 32 :: 97 :: 32 :: 35 :: 124 :: 32 :: 98 :: 32 :: 124 :: 35 :: 32 :: 124 :: 35 :: s from rfl]
 unfold skF
 rw [skp, vm (by decide), if_neg (by decide), if_neg (by decide), if_pos (by rfl)]
 show ((xm (32 :: 97 :: 32 :: 35 :: 124 :: 32 :: 98 :: 32 :: 124 :: 35 :: 32 :: 124 :: 35 :: s).length.succ 1 (32 :: 97 :: 32 :: 35 :: 124 :: 32 :: 98 :: 32 :: 124 :: 35 :: 32 :: 124 :: 35 :: s)).bind _) = _
 rw [show xm (32 :: 97 :: 32 :: 35 :: 124 :: 32 :: 98 :: 32 :: 124 :: 35 :: 32 :: 124 :: 35 :: s).length.succ 1 (32 :: 97 :: 32 :: 35 :: 124 :: 32 :: 98 :: 32 :: 124 :: 35 :: 32 :: 124 :: 35 :: s) = some 13 from jdj s]
 show (skp _ s).map _ = _
 rw [qhb (by simp; omega)]
 rfl
theorem jea (n : Nat) (s : List UInt8) : (dat (n + 16) (40 :: 49 :: 32 :: 50 :: 41 :: 32 :: s)).map (fun r => r.2.1) = some 5 := by kernel_rfl
theorem jeb {f : Nat} {l : List UInt8} (c1 : ¬ C.blankB (((dcX l).1 : Nat) : Int) = true) (c2 : ¬ (((dcX l).1 : Nat) : Int) = 59) (c3 : ¬ Lib.hasPrefix l [35, 124] = true) (c4 : Lib.hasPrefix l [35, 59] = true) : skp (f + 1) l = (sdX f (l.drop 2)).bind fun n => (skp f ((l.drop 2).drop n)).map (· + (2 + n)) := by
 rw [skp, if_neg c1, if_neg c2, if_neg c3, if_pos c4]
 rfl
theorem jec {f : Nat} {l : List UInt8} (c1 : ¬ C.blankB (((dcX l).1 : Nat) : Int) = true) (c2 : ¬ (((dcX l).1 : Nat) : Int) = 59) (c3 : ¬ Lib.hasPrefix l [35, 124] = true) (c4 : ¬ Lib.hasPrefix l [35, 59] = true) : skp (f + 1) l = some 0 := by
 rw [skp, if_neg c1, if_neg c2, if_neg c3, if_neg c4]
theorem jhh (n : Nat) (s : List UInt8) : sdX (n + 16) (40 :: 49 :: 32 :: 50 :: 41 :: 32 :: s) = some 5 := by
 obtain ⟨r, e2, e3⟩ := Option.map_eq_some_iff.1 (jea n s)
 unfold sdX
 rw [jec (f := n + 15) (by rw [vm (by decide)]; decide) (by rw [vm (by decide)]; decide) (fun k => by cases k) (fun k => by cases k), Option.bind_some]
 rw [show List.drop 0 (40 :: 49 :: 32 :: 50 :: 41 :: 32 :: s) = (40 :: 49 :: 32 :: 50 :: 41 :: 32 :: s) from rfl, e2, Option.bind_some, e3, if_pos]
 show Lib.validD [40, 49, 32, 50, 41] = true
 decide
theorem zth (s : List UInt8) : skF ([35, 59, 40, 49, 32, 50, 41, 32] ++ s) = (skF s).map (· + 8) := by
 unfold skF
 rw [show ([35, 59, 40, 49, 32, 50, 41, 32] ++ s : List UInt8) = 35 :: 59 :: 40 :: 49 :: 32 :: 50 :: 41 :: 32 :: s from rfl, show 2 * (35 :: 59 :: 40 :: 49 :: 32 :: 50 :: 41 :: 32 :: s).length + 1 = 2 * s.length + 16 + 1 from rfl]
 rw [jeb (by rw [vm (by decide)]; decide) (by rw [vm (by decide)]; decide) (fun k => by cases k) rfl, show List.drop 2 (35 :: 59 :: 40 :: 49 :: 32 :: 50 :: 41 :: 32 :: s) = 40 :: 49 :: 32 :: 50 :: 41 :: 32 :: s from rfl, jhh, Option.bind_some, show List.drop 5 (40 :: 49 :: 32 :: 50 :: 41 :: 32 :: s) = 32 :: s from rfl]
 rw [qhb (by simp only [List.length_cons]; omega), ki (vm (by decide)) (by decide) (s := s) rfl (by simp), map_map rfl]
 rfl
theorem zti (s : List UInt8) : dcX (226 :: 128 :: 168 :: s) = (8232, 3) := by kernel_rfl
theorem ztj (s : List UInt8) : dcX (194 :: 160 :: s) = (160, 2) := by kernel_rfl
theorem zzf (s : List UInt8) : skF ([226, 128, 168, 194, 160] ++ s) = (skF s).map (· + 5) := by
 rw [show ([226, 128, 168, 194, 160] ++ s : List UInt8) = 226 :: 128 :: 168 :: 194 :: 160 :: s from rfl, ki (zti _) (by decide) (s := 194 :: 160 :: s) rfl (by simp), ki (ztj _) (by decide) (s := s) rfl (by simp; omega), map_map rfl]
theorem zzg (x : List UInt8) : Lib.validD ([226, 128, 168, 194, 160] ++ x) = Lib.validD x := by
 have h1 := zti (194 :: 160 :: x)
 have h2 := ztj x
 rw [qjf (by simp)] at h1 h2
 show Lib.validD (226 :: 128 :: 168 :: 194 :: 160 :: x) = _
 rw [Lib.validD_step _ (by simp), h1, if_neg (by decide)]
 show Lib.validD (194 :: 160 :: x) = _
 rw [Lib.validD_step _ (by simp), h2, if_neg (by decide)]
 rfl
theorem qmd {p x : List UInt8} (h : ∀ b ∈ p, b.toNat < 128) : Lib.validD (p ++ x) = Lib.validD x := by
 rw [Lib.validD_ascii p.length _ (by rw [List.take_left']; exact h; rfl), List.drop_left']
 rfl
def ahX (k : Nat) : List UInt8 := match k with
 | 0 => [32]
 | 1 => [9, 10]
 | 2 => [59, 32, 120, 10]
 | 3 => [35, 124, 32, 97, 32, 35, 124, 32, 98, 32, 124, 35, 32, 124, 35]
 | 4 => [35, 59, 40, 49, 32, 50, 41, 32]
 | _ => [226, 128, 168, 194, 160]
theorem jhi (k : Nat) (s : List UInt8) : skF (ahX k ++ s) = (skF s).map (· + (ahX k).length) := by
 unfold ahX
 split
 ·
  exact ztg s
 ·
  exact jdi s
 ·
  exact zzd s
 ·
  exact zze s
 ·
  exact zth s
 ·
  exact zzf s
theorem jhj (k : Nat) (x : List UInt8) : Lib.validD (ahX k ++ x) = Lib.validD x := by
 unfold ahX
 split
 ·
  exact qmd (by decide)
 ·
  exact qmd (by decide)
 ·
  exact qmd (by decide)
 ·
  exact qmd (by decide)
 ·
  exact qmd (by decide)
 ·
  exact zzg x
theorem zua {k : Nat} {s : List UInt8} (hl : (ahX k ++ s).length ≤ 65536) : (rdX (ahX k ++ s)).1 = (rdX s).1 ∧ (rdX (ahX k ++ s)).2.2 = (rdX s).2.2 ∧ (rdX (ahX k ++ s)).2.1 = (if (rdX s).1 = 0 then (rdX s).2.1 + (ahX k).length else 0) ∧ ((rdX s).1 ≠ 0 → (rdX s).2.1 = 0) := by
 have hl2 := hl
 rw [List.length_append] at hl2
 rw [zsi (by omega), zsi (by omega)]
 have hs := jhi k s
 unfold frX
 rw [qhb (Nat.le_refl _), qhb (Nat.le_refl _), hs]
 cases hq : skF s with
 | none => exact ⟨rfl, rfl, rfl, fun _ => rfl⟩
 | some a =>
  have hd : (ahX k ++ s).drop (a + (ahX k).length) = s.drop a := by rw [Nat.add_comm, ← List.drop_drop, List.drop_left']; rfl
  have ht : ∀ n, (ahX k ++ s).take (a + (ahX k).length + n) = ahX k ++ s.take (a + n) := fun n => by
   rw [show a + (ahX k).length + n = (ahX k).length + (a + n) by omega, List.take_length_add_append]
  have hf : dat (2 * (ahX k ++ s).length + 1) (s.drop a) = dat (2 * s.length + 1) (s.drop a) := (qmc _ _).2.1 _ (by rw [List.length_drop, List.length_append]; omega) (by rw [List.length_drop]; omega)
  simp only [Option.map_some, hd, hf]
  by_cases c : (s.drop a).isEmpty = true
  ·
   rw [if_pos c, if_pos c]; exact ⟨rfl, rfl, rfl, fun _ => rfl⟩
  rw [if_neg c, if_neg c]
  cases dat (2 * s.length + 1) (s.drop a) with
  | none => exact ⟨rfl, rfl, rfl, fun _ => rfl⟩
  | some r =>
   simp only [ht, jhj]
   split
   ·
    split
    ·
     exact ⟨rfl, rfl, rfl, fun _ => rfl⟩
    ·
     split
     ·
      exact ⟨rfl, rfl, by show a + (ahX k).length + r.2.1 = if (0 : Int) = 0 then a + r.2.1 + (ahX k).length else 0; rw [if_pos rfl]; omega, fun h => absurd rfl h⟩
     ·
      exact ⟨rfl, rfl, rfl, fun _ => rfl⟩
   ·
    exact ⟨rfl, rfl, rfl, fun _ => rfl⟩
theorem zzh (a b : List UInt8) : tx a ++ tx b = tx (a ++ b) := by
 apply ByteArray.ext
 rw [ByteArray.data_append]
 simp [tx]
theorem zub {P : Program} {t : TypeId} {x y : Operand} {a b : List UInt8} (hm : a.length + b.length ≤ 9223372036854775807) : ∀ w, (do eqGuard .add t x y (.string (tx a)) (.string (tx b)); binOp .add t (.string (tx a)) (.string (tx b)) : Sem Value).run P w = .ok (.string (tx (a ++ b))) w := fun w => by
 rw [qtb (by rw [jy, jy]; exact hm) w, zzh]
theorem zuc {P : Program} {t : TypeId} {a b : Operand} {n r : Nat} (hn : n ≤ 255) (hr : n % 6 = r) : ∀ w, (do eqGuard .rem t a b (.int .u8 ((n : Nat) : Int)) (.int .u8 6); binOp .rem t (.int .u8 ((n : Nat) : Int)) (.int .u8 6) : Sem Value).run P w = .ok (.int .u8 ((r : Nat) : Int)) w := fun w => by
 subst hr
 have e : ((n : Nat) : Int).tmod (6 : Int) = ((n % 6 : Nat) : Int) := by rw [Int.tmod_eq_emod_of_nonneg (by omega)]; omega
 have h : IntKind.u8.wrap ((n % 6 : Nat) : Int) = ((n % 6 : Nat) : Int) := by rw [IntKind.wrap_u8]; omega
 simp [go_sem, e, h]
theorem qyd {P : Program} {t e : TypeId} {sz : Nat} (hu : P.underlying t = some (.slice e)) (he : (P.info? e).map (·.size) = some sz) {g o n c k : Nat} (hk : k < n) : ∀ w, (Instr.indexAt t (.slice (some ⟨g, o, none⟩) n c) (.int .u8 (k : Nat))).run P w = .ok (pA g (o + k * sz)) w := fun w => by
 obtain ⟨i, hi, hs⟩ := vd he
 have h2 : (sizeOf e).run P w = .ok sz w := by simp [sizeOf, typeInfo, hi, hs]
 have h3 : (0 : Int) ≤ (k : Nat) ∧ ((k : Nat) : Int) < (n : Nat) := ⟨by omega, by omega⟩
 simp [Instr.indexAt, asIntOf, run_underlying hu, h2, h3, xg]
 intro h
 omega
theorem qsb {P : Program} {w : World} {l : List (Nat × Value)} {dst : Option Tmp} {ty : TypeId} {pos : String} {after : Array Edge} {guard : Option (Nat × Bool)} {t e : TypeId} {sz : Nat} (hu : P.underlying t = some (.slice e)) (he : (P.info? e).map (·.size) = some sz) {x i : Operand} {g n c k : Nat} (hx : ev l x = some (.slice (aO g) n c)) (hi : ev l i = some (.int .u8 ((k : Nat) : Int))) (hk : k < n) :
  Does P l ⟨dst, .indexAddr t x i, ty, pos, after, guard⟩ w (pA g (k * sz)) w := by
 have := ko (l := l) (dst := dst) (ty := ty) (pos := pos) (after := after) (guard := guard) (w := w) hx hi (qyd hu he (o := 0) hk)
 rwa [Nat.zero_add] at this
theorem jed {m : Nat} (h : m < 6) : ([.string (tx [32]), .string (tx [9, 10]), .string (tx [59, 32, 120, 10]), .string (tx [35, 124, 32, 97, 32, 35, 124, 32, 98, 32, 124, 35, 32, 124, 35]), .string (tx [35, 59, 40, 49, 32, 50, 41, 32]), .string (tx [226, 128, 168, 194, 160])] : List Value)[m]? = some (.string (tx (ahX m))) := by
 match m, h with
 | 0, _ => rfl
 | 1, _ => rfl
 | 2, _ => rfl
 | 3, _ => rfl
 | 4, _ => rfl
 | 5, _ => rfl
theorem jia (k : Nat) : (ahX k).length ≤ 15 := by
 unfold ahX
 split <;> decide
theorem zed {w : World} {L : List UInt8} {k : Nat} (hN : Env w) (hl : L.length ≤ 140737488355328) (hk : k ≤ 255) : Calls Tryz.prog 5 #[.string (tx L), .int .u8 ((k : Nat) : Int)] w fun e w' => e = .returned (bV true) ∧ Below w.heap.size w w' := by
 obtain ⟨m, hm⟩ : ∃ m, k % 6 = m := ⟨_, rfl⟩
 have hm6 : m < 6 := by omega
 have hah := jia m
 have M : Mg w w ([]) := Mg.start w
 refine qt (l := [(0, .string ((tx L))), (1, .int .u8 (((k : Nat) : Int)))]) Tryz.func5 rfl Tryz.ntmps5 rfl rfl ?_
 intro Q hret hnorm hP a A
 refine wsk fun K1 hK1 => wrl (sda A λa A↦?_)
 refine qa (hK1 _ _ (wsk fun K2 hK2 => wrl (qpf (e := 9) (sz := 1) (m := 6) (vs := [.string (tx [32]), .string (tx [9, 10]), .string (tx [59, 32, 120, 10]), .string (tx [35, 124, 32, 97, 32, 35, 124, 32, 98, 32, 124, 35, 32, 124, 35]), .string (tx [35, 59, 40, 49, 32, 50, 41, 32]), .string (tx [226, 128, 168, 194, 160])]) A M rfl rfl rfl (xa rfl (by kernel_rfl)) rfl rfl (.inl (by decide)) ?_)))
 intro g3 w4 M a A
 refine sdm A λa A↦?_
 refine sdo (v := .int .u8 (((m : Nat) : Int))) A (qb rfl rfl (zuc hk hm)) λa A↦?_
 refine sdo (v := pA g3 (m * 1)) A (qsb (k := m) Tryz.underlying41 (by kernel_rfl) rfl rfl (by omega)) λa A↦?_
 refine sdo (v := .string ((tx (ahX m)))) A (zvf M 0 rfl ((congrArg _ (Nat.mul_one m)).trans (jed (by omega))) o99 rfl) λa A↦?_
 replace M : Mg w w4 [] := M.sub ns
 refine sda A λa A↦?_
 refine qa (hK2 _ _ (wsk fun K5 hK5 => wsk fun K6 hK6 => wrl (sct A (ef rfl rfl) (qof (hN.below M.bel)) ?_)))
 rintro _ w8 ⟨rfl, hb7⟩
 replace M := M.call hb7
 refine ⟨_, rfl, ?_⟩
 intro a A
 refine sdo (v := bV false) A (zi rfl zr) λa A↦?_
 iterate 2 refine sdm A λa A↦?_
 refine sdo (v := iV (((L.length : Nat) : Int))) A (qx (s := L) Tryz.underlying9 rfl) λa A↦?_
 refine sdm A λa A↦?_
 refine sdo (v := iV ((((ahX m).length : Nat) : Int))) A (qx (s := ahX m) Tryz.underlying9 rfl) λa A↦?_
 refine sdo (v := iV (((65536 - (ahX m).length : Nat) : Int))) A (qb rfl rfl (ar_sub ((in_i64 (by omega) (by omega)).trans (by omega)))) λa A↦?_
 rcases tf (decide (((65536 - (ahX m).length : Nat) : Int) < ((L.length : Nat) : Int))) with hb9 | hb9
 ·
  have hb9' := of_decide_eq_true hb9
  refine sdc A ja hb9 λa A↦?_
  refine sdk (v := bV true) A λa A↦?_
  refine qa (hK6 _ _ (ct A ?_))
  refine wsk fun K10 hK10 => wrl (sct A (ef rfl rfl) (qof (hN.below M.bel)) ?_)
  rintro _ w12 ⟨rfl, hb11⟩
  replace M := M.call hb11
  refine ⟨_, rfl, ?_⟩
  intro a A
  refine sda A λa A↦?_
  refine qa (hK10 _ _ (wr1 hret A ?_))
  exact ⟨rfl, M.bel⟩
 ·
  have hb9' := of_decide_eq_false hb9
  refine sdc A ja hb9 λa A↦?_
  refine sdk (v := bV false) A λa A↦?_
  refine qa (hK6 _ _ (cf A ?_))
  refine wp_skip (hK5 _ _ (wsk fun K13 hK13 => wrl (sdm A λa A↦?_)))
  obtain ⟨e1, n1, T1, hr1⟩ : ∃ e n t, rdX L = (e, n, t) := ⟨_, _, _, rfl⟩
  refine sct A (ef rfl rfl) ((by have h := read_any (L := L) (U := []) (Z := []) hN Cu.nil Ob.nil (by omega) M; rw [hr1] at h; exact h)) ?_
  rintro _ w14 ⟨t1, F1, rfl, ⟨htr0, hle0⟩, ⟨hL0, hO1⟩, hM1⟩
  have htr1 : t1.tr = T1 := htr0
  have hle1 : e1 = 0 → 1 ≤ n1 ∧ n1 ≤ L.length := hle0
  have hL1 : Lv w F1 t1 := by rw [List.append_nil] at hL0; exact hL0
  rw [List.append_nil, List.nil_append] at hM1
  replace M : Mg w w14 (F1) := hM1
  refine ⟨_, rfl, ?_⟩
  intro a A
  refine sdm A λa A↦?_
  iterate 3 refine sdo A (qi (vs := [.agg (t1.d.cells t1.ts.length).toArray, iV (((n1 : Nat) : Int)), iV e1]) rfl rfl) λa A↦?_
  refine vv (vs := zD) (t := 30) A M rfl rfl rfl pg (ql (z := .agg zD.toArray) (by kernel_rfl) rfl) (by decide) ?_
  intro g15 w16 M a A
  refine zp (L' := (.obj g15 (.cells (t1.d.cells t1.ts.length).toArray 30) :: F1)) A M rfl rfl (ze rfl rfl rfl (by kernel_rfl) M 0 rfl rfl rfl) 0 rfl rfl rfl ?_
  intro w17 M
  iterate 2 refine sda A λa A↦?_
  refine qa (hK13 _ _ (wsk fun K18 hK18 => wrl ?_))
  iterate 2 refine sdm A λa A↦?_
  refine sdo (v := .string ((tx (ahX m ++ L)))) A (qb rfl rfl (zub (by omega))) λa A↦?_
  have hsz : (ahX m ++ L).length ≤ 65536 := by rw [List.length_append]; have := of_decide_eq_false hb9; omega
  obtain ⟨n2, hn2, hr2, hz1⟩ : ∃ n2, n2 = (if e1 = 0 then n1 + (ahX m).length else 0) ∧ rdX (ahX m ++ L) = (e1, n2, T1) ∧ (e1 ≠ 0 → n1 = 0) := by
   obtain ⟨q1, q2, q3, q4⟩ := zua (k := m) (s := L) hsz
   rw [hr1] at q1 q2 q3 q4
   exact ⟨_, rfl, Prod.ext q1 (Prod.ext q3 q2), q4⟩
  refine sct A (ef rfl rfl) ((by have h := read_any (L := ahX m ++ L) (U := (.obj g15 (.cells (t1.d.cells t1.ts.length).toArray 30) :: [])) (Z := F1) hN (Cu.cons rfl Cu.nil) hO1 (by omega) M; rw [hr2] at h; exact h)) ?_
  rintro _ w19 ⟨t2, F2, rfl, ⟨htr9, _⟩, ⟨hL2, hO2⟩, hM2⟩
  have htr2 : t2.tr = T1 := htr9
  replace M : Mg w w19 (.obj g15 (.cells (t1.d.cells t1.ts.length).toArray 30) :: (F2 ++ F1)) := hM2
  refine ⟨_, rfl, ?_⟩
  intro a A
  refine sdm A λa A↦?_
  iterate 3 refine sdo A (qi (vs := [.agg (t2.d.cells t2.ts.length).toArray, iV (((n2 : Nat) : Int)), iV e1]) rfl rfl) λa A↦?_
  refine vv (vs := zD) (t := 30) A M rfl rfl rfl pg (ql (z := .agg zD.toArray) (by kernel_rfl) rfl) (by decide) ?_
  intro g20 w21 M a A
  refine zp (L' := (.obj g20 (.cells (t2.d.cells t2.ts.length).toArray 30) :: .obj g15 (.cells (t1.d.cells t1.ts.length).toArray 30) :: (F2 ++ F1))) A M rfl rfl (ze rfl rfl rfl (by kernel_rfl) M 0 rfl rfl rfl) 0 rfl rfl rfl ?_
  intro w22 M
  iterate 2 refine sda A λa A↦?_
  refine qa (hK18 _ _ (wsk fun K23 hK23 => wrl ?_))
  iterate 2 refine sdm A λa A↦?_
  refine sdo (v := bV true) A (qb rfl rfl (fun w => (qj w).trans (by rw [show ((e1 == e1)) = true from (beq_iff_eq.2 rfl)]))) λa A↦?_
  refine sdm A λa A↦?_
  refine sdo A (vf M xz rfl 1 rfl (cs := [iV t1.d.k, iV t1.d.n, bV t1.d.y.q.b1, .slice t1.d.y.o1 t1.d.y.q.t1.length t1.d.y.c1, .slice t1.d.y.o2 t1.d.y.q.q1.length t1.d.y.c2, bV t1.d.y.q.b2, .slice t1.d.y.o3 t1.d.y.q.t2.length t1.d.y.c3, .slice t1.d.y.o4 t1.d.y.q.q2.length t1.d.y.c4, .string t1.d.s, .slice t1.d.ro t1.d.rl.length t1.d.rc, .slice t1.d.lo t1.ts.length t1.d.lc]) rfl rfl) λa A↦?_
  refine sdo A (vf M xz rfl 0 rfl (cs := [iV t2.d.k, iV t2.d.n, bV t2.d.y.q.b1, .slice t2.d.y.o1 t2.d.y.q.t1.length t2.d.y.c1, .slice t2.d.y.o2 t2.d.y.q.q1.length t2.d.y.c2, bV t2.d.y.q.b2, .slice t2.d.y.o3 t2.d.y.q.t2.length t2.d.y.c3, .slice t2.d.y.o4 t2.d.y.q.q2.length t2.d.y.c4, .string t2.d.s, .slice t2.d.ro t2.d.rl.length t2.d.rc, .slice t2.d.lo t2.ts.length t2.d.lc]) rfl rfl) λa A↦?_
  refine gcl A M (ef rfl rfl) (zte ((hL1.app F2) _ (M.sub (cn (cn (.refl _))))) (hL2 _ (M.sub (cn (cn (.refl _))))) ((ztc _ _).2 (htr1.trans htr2.symm))) fun w25 hb24 M a A => ?_
  refine sdk (v := bV true) A λa A↦?_
  iterate 2 refine sdm A λa A↦?_
  rcases tf ((e1 != 0)) with hb26 | hb26
  ·
   have hb26' := bne_iff_ne.1 hb26
   refine sdc A za hb26 λa A↦?_
   iterate 2 refine sdm A λa A↦?_
   refine sdo (v := bV true) A (qb rfl rfl (fun w => (qj w).trans (by rw [show ((((n1 : Nat) : Int) == 0)) = true from (beq_iff_eq.2 (by rw [hz1 (bne_iff_ne.1 hb26)]; rfl))]))) λa A↦?_
   refine sdk (v := bV true) A λa A↦?_
   iterate 2 refine sdm A λa A↦?_
   refine sdo (v := bV true) A (qb rfl rfl (fun w => (qj w).trans (by rw [show ((((n2 : Nat) : Int) == 0)) = true from (beq_iff_eq.2 (by rw [hn2, if_neg (bne_iff_ne.1 hb26)]; rfl))]))) λa A↦?_
   refine sdk (v := bV true) A λa A↦?_
   refine sdm A λa A↦?_
   iterate 3 refine qf A rfl rfl rfl λa A↦?_
   iterate 6 refine vt A rfl rfl rfl λa A↦?_
   refine qf A rfl rfl rfl λa A↦?_
   iterate 2 refine sdk (v := bV true) A λa A↦?_
   refine sda A λa A↦?_
   refine qa (hK23 _ _ (wr1 hret A ?_))
   exact ⟨rfl, M.bel⟩
  ·
   have hb26' := bne_eq_false_iff_eq.1 hb26
   refine sdc A za hb26 λa A↦?_
   refine sdm A λa A↦?_
   iterate 2 refine qf A rfl rfl rfl λa A↦?_
   refine sdk (v := bV false) A λa A↦?_
   refine sdm A λa A↦?_
   iterate 2 refine qf A rfl rfl rfl λa A↦?_
   refine sdk (v := bV false) A λa A↦?_
   iterate 2 refine sdm A λa A↦?_
   refine sdo (v := bV true) A (qb rfl rfl (fun w => (qj w).trans (by rw [show ((e1 == 0)) = true from (beq_iff_eq.2 (by simpa using hb26))]))) λa A↦?_
   iterate 4 refine sdm A λa A↦?_
   refine sdo (v := iV ((((ahX m).length : Nat) : Int))) A (qx (s := ahX m) Tryz.underlying9 rfl) λa A↦?_
   refine sdo (v := iV (((n1 + (ahX m).length : Nat) : Int))) A (qb rfl rfl (ar_add ((in_i64 (by omega) (by omega)).trans (by omega)))) λa A↦?_
   refine sdo (v := bV true) A (qb rfl rfl (fun w => (qj w).trans (by rw [show ((((n2 : Nat) : Int) == ((n1 + (ahX m).length : Nat) : Int))) = true from (beq_iff_eq.2 (by rw [hn2, if_pos (by simpa using hb26)]))]))) λa A↦?_
   iterate 3 refine sdk (v := bV true) A λa A↦?_
   refine sda A λa A↦?_
   refine qa (hK23 _ _ (wr1 hret A ?_))
   exact ⟨rfl, M.bel⟩
theorem zee {W : World} {s : ByteArray} {z : Int} (hE : Env W) (hs : s.size ≤ 140737488351232) (h0 : 0 ≤ z) (h1 : z ≤ 255) : Calls Tryz.prog 5 #[.string s, .int .u8 z] W fun e w' => e = .returned (bV true) ∧ Below W.heap.size W w' := by
 obtain ⟨k, rfl⟩ := Int.eq_ofNat_of_zero_le h0
 have h := zed (L := s.data.toList) (k := k) hE (by rw [Array.length_toList]; exact Nat.le_trans hs (by decide)) (by omega)
 have e : tx s.data.toList = s := zzi s
 rwa [e] at h
end Go.Proofs.YtclkfideaameoaaGreatDoor.G
