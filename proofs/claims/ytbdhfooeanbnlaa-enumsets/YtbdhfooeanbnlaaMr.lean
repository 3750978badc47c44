/- Rows of bytes that grow; what Encode writes. -/
import Derived.Test.YtbdhfooeanbnlaaCoW
namespace Go.Proofs.Ytbdhfooeanbnlaa
open Go.RowKit Go.Lib
set_option linter.unusedVariables false
set_option linter.unusedSimpArgs false
section
variable {P : Program} {w0 w : World} {L : List Ck} {l : List (Nat × Value)} {ops : List Oper} {Q : Exit → Act → World → Prop} {a : Act} {n : Nat} {o : Oper} {rest : List Oper} {d : Nat}
theorem s_lit (hA : Sl a n l) (hM : Mg w0 w L) (hg : passes l ops o = true) (hdst : o.dst = some d) (hd : Nat.blt d n = true) {vs : List Value} {m : Nat} (he : Does P l o w (.slice (some ⟨w.heap.size, 0, none⟩) m m) (w.alloc (.cells vs.toArray BY))) (hm : vs.length = m) (hle : Nat.ble m 1000 = true) (hnb : noBld L)
    (hk : ∀ g w', Mg w0 w' (.row BY 1 (.slice (some ⟨g, 0, none⟩) m m) m vs :: L) → ∀ a', Sl a' n ((d, .slice (some ⟨g, 0, none⟩) m m) :: l) → wpList P ops.toArray Q rest a' w') : wpList P ops.toArray Q (o :: rest) a w := by
  refine seq_do hA hg hdst hd he (hk _ _ (hM.add ((Below.refl _ w).alloc (Nat.le_refl _) _) ?_ (fun k e => ?_) (.inr (.inl ⟨_, _, _, _, _, rfl, .inr hnb⟩))))
  · have := World.ownsRow_lit (base := w0.heap.size) (e := BY) (size := 1) w vs.toArray m hM.bel.size (by unfold maxLen; have := Nat.le_of_ble_eq_true hle; omega) (by simp [hm])
    simpa [Ck.holds] using this
  · simp [Ck.at_, Value.ownBlock] at e
    omega
theorem m_append {t ty : TypeId} {x y : Operand} {dst : Option Tmp} {pos : String} {after : Array Edge} {guard : Option (Nat × Bool)} (ht : P.underlying t = some (.slice BY)) (hinfo : (P.info? BY).map (fun i => (i.zero, i.size, i.bytes)) = some (some (.int .u8 0), 1, 1)) (hM : Mg w0 w L) (k : Nat) {v : Value} {q : Nat} {xs : List Value} (hk : L[k]? = some (.row BY 1 v q xs)) (hx : ev l x = some v) (j : Nat) {b m c2 : Nat} {news : List Value} (hj : L[j]? = some (.row BY 1 (.slice (some ⟨b, 0, none⟩) m c2) m news)) (hy : ev l y = some (.slice (some ⟨b, 0, none⟩) m c2)) (h1 : news.all Value.oneCell' = true) (hm : Nat.ble 1 m = true) (hlen : q + m ≤ 1000000000) :
    ∃ v' w', Does P l ⟨dst, .call ⟨.builtin .append, #[x, y], #[t, t]⟩, ty, pos, after, guard⟩ w v' w' ∧ Mg w0 w' (L.set k (.row BY 1 v' (q + m) (xs ++ news))) := by
  obtain ⟨i, hi, hzz⟩ := Option.map_eq_some_iff.1 hinfo
  simp only [Prod.mk.injEq] at hzz
  obtain ⟨hz, hs, hb⟩ := hzz
  have hrow := hM.has k hk
  have hnew := hM.has j hj
  have hnl : news.length = m * 1 := hnew.1
  obtain ⟨g, cap, w', hr, hown, hgr, hat, hlt⟩ := run_append_lies (P := P) w t ty w0.heap.size BY i (.int .u8 0) 1 1 ht hi hz hs hb rfl (by decide) v q xs hrow ⟨b, 0, none⟩ m c2 news hnl (fun p u hp => by
      have hlt : p < news.length := (List.getElem?_eq_some_iff.1 hp).1
      rw [addr_add, Nat.zero_add, World.ownsRow.cellAt hnew p (by omega)]
      exact hp) (fun u hu => List.all_eq_true.1 h1 u hu) (Nat.le_of_ble_eq_true hm) (by unfold maxLen; omega) (by omega) hM.bel.size w.heap.size rfl
  refine ⟨.slice (some ⟨g, 0, none⟩) (q + m) cap, w', fun ρ h => ?_, hM.turn k hk (by simp) hgr hown (fun d hd ha => ?_)⟩
  · simp [execOp, resolve, invoke, builtin, h x _ hx, h y _ hy, hr]
  · have hl := Ck.lt (hM.all d hd)
    have key : ∀ z, d.at_ = some z → v.ownBlock ≠ some z → g ≠ z := fun z hz hne e => by
      subst e
      rcases hat with h | h
      · exact hne h
      · have := (hl g hz).2; omega
    cases d with
    | obj g' o' => exact fun e => key g' rfl ha (by simpa [Value.ownBlock] using e)
    | row e' sz' v' n' xs' =>
      right
      intro e
      have e2 : v'.ownBlock = some g := e.symm
      rcases ha with ha | ha
      · exact key g e2 (by rw [ha]; simp) rfl
      · exact key g e2 (fun h => ha (h.trans e2.symm)) rfl
    | bld b' bs' => exact ⟨ha.1, fun e => key b' rfl ha.2 (by simpa [Value.ownBlock] using e)⟩
theorem s_append (hA : Sl a n l) (hg : passes l ops o = true) (hdst : o.dst = some d) (hd : Nat.blt d n = true) {k q m : Nat} {xs news : List Value} (he : ∃ v' w', Does P l o w v' w' ∧ Mg w0 w' (L.set k (.row BY 1 v' (q + m) (xs ++ news)))) {L' : Value → List Ck} (hL : ∀ v', L.set k (.row BY 1 v' (q + m) (xs ++ news)) = L' v')
    (hk : ∀ v' w', Mg w0 w' (L' v') → ∀ a', Sl a' n ((d, v') :: l) → wpList P ops.toArray Q rest a' w') : wpList P ops.toArray Q (o :: rest) a w := by
  obtain ⟨v', w', h1, h2⟩ := he
  exact seq_do hA hg hdst hd h1 (hk v' w' (hL v' ▸ h2))
end
theorem owns_slice {w : World} {B : Nat} {e : TypeId} {v : Value} {n : Nat} {xs : List Value} (h : w.ownsRow B e 1 v n xs) : ∃ so cap, v = .slice so n cap := by
  rcases h.2 with ⟨rfl, rfl⟩ | ⟨g, cap, cur, rfl, _⟩
  · exact ⟨none, 0, rfl⟩
  · exact ⟨_, cap, rfl⟩
/-- The library's AppendRune, beside pieces that are no rows of bytes. -/
theorem row_rune {w0 w w' : World} {X : List Ck} {v v' : Value} {q q' : Nat} {xs xs' : List Value} {o : Obj} (hM : Mg w0 w (.row BY 1 v q xs :: X)) (hq : ∀ d ∈ X, quietC d) (hown : w'.ownsRow w0.heap.size BY 1 v' q' xs') (hg : (w.alloc o).grownBy w' v.ownBlock) : Mg w0 w' (.row BY 1 v' q' xs' :: X) := by
  have h1 := hM.call ((Below.refl _ w).alloc (Nat.le_refl _) o)
  refine h1.turn 0 (c := .row BY 1 v q xs) (c' := .row BY 1 v' q' xs') rfl (by simp) hg hown (fun d hd ha => ?_)
  have hd' : d.holds w0.heap.size w' := Ck.grown (h1.all d hd) (h1.has 0 (c := .row BY 1 v q xs) rfl) (by simp) ha hg
  have blk : ∀ g, v'.ownBlock = some g → ∃ cur, w'.heap[g]? = some (.cells cur BY (0, 0)) := fun g hv => by
    rcases hown.2 with ⟨rfl, _⟩ | ⟨g', cap, cur, rfl, _, hc, _⟩
    · cases hv
    · cases hv; exact ⟨cur, hc⟩
  rcases List.mem_cons.1 hd with rfl | hd
  · rcases ha with ha | ha
    · by_cases k : v'.ownBlock = none
      · exact .inl k
      · exact .inr (fun e => k (e.trans ha))
    · exact absurd rfl ha
  · have hqd := hq d hd
    cases d with
    | obj g' o' =>
      intro e
      obtain ⟨cur, hc⟩ := blk g' e
      have := hd'.2
      rw [hc] at this
      exact hqd cur (0, 0) (Option.some.inj this).symm
    | row e' sz' v2 n2 xs2 =>
      by_cases k : v'.ownBlock = none
      · exact .inl k
      · right
        intro e
        obtain ⟨g, hv⟩ := Option.ne_none_iff_exists'.1 k
        obtain ⟨cur, hc⟩ := blk g hv
        rcases hd'.2 with ⟨rfl, _⟩ | ⟨g', cap, cur', rfl, _, hc', _⟩
        · rw [hv] at e; cases e
        · rw [hv] at e
          cases e
          rw [hc] at hc'
          cases hc'
          exact hqd rfl
    | bld b' bs' => exact hqd.elim
section
variable {P : Program} {w0 w : World} {L : List Ck} {l : List (Nat × Value)} {dst : Option Tmp} {ty : TypeId} {pos : String} {after : Array Edge} {guard : Option (Nat × Bool)} {v : Value}
theorem far_cell (hM : Mg w0 w L) {g : Nat} {vs : List Value} {e : TypeId} (hF : w0.heap[g]? = some (.cells vs.toArray e)) (i : Nat) {u : Value} (hi : vs[i]? = some u) : w.cell? ⟨g, i, none⟩ = some u := by
  have hlt := (Array.getElem?_eq_some_iff.1 hF).1
  rw [cell_of_row w g i vs.toArray e (0, 0) ((hM.bel.block g hlt).trans hF)]
  simpa using hi
theorem m_load1F (hM : Mg w0 w L) {g o : Nat} {vs : List Value} {e : TypeId} (hF : w0.heap[g]? = some (.cells vs.toArray e)) {t : TypeId} (ht : Is1 P t) {x : Operand} (hx : ev l x = some (.pointer (some ⟨g, o, none⟩))) (hv : vs[o]? = some v) : Does P l ⟨dst, .load t x, ty, pos, after, guard⟩ w v w := does_load hx (run_load1 ht (far_cell hM hF o hv))
end
theorem noBld_cons {c : Ck} {L : List Ck} (h : ∀ b bs, c ≠ .bld b bs) (t : noBld L) : noBld (c :: L) := by
  intro d hd b bs
  rcases List.mem_cons.1 hd with rfl | hd
  · exact h b bs
  · exact t d hd b bs
theorem noBld_quiet {L : List Ck} (h : ∀ d ∈ L, quietC d) : noBld L := by
  intro d hd b bs e
  have := h d hd
  rw [e] at this
  exact this
/-- A byte of a number. -/
def b8 (z : Int) : UInt8 := z.toNat.toUInt8
theorem b8_val {z : Int} (h0 : 0 ≤ z) (h1 : z < 256) : (((b8 z).toNat : Nat) : Int) = z := by
  unfold b8
  simp
  omega
def hiH (r : Int) : Int := 55296 + (r - 65536) / 1024
def loH (r : Int) : Int := 56320 + (r - 65536) % 1024
/-- The bytes of a character that the codec has. -/
def encC (c r : Int) : List UInt8 :=
  if c = 2 then [b8 r] else if c = 3 then (if r < 65536 then [b8 (r / 256), b8 (r % 256)] else [b8 (hiH r / 256), b8 (hiH r % 256), b8 (loH r / 256), b8 (loH r % 256)]) else encodeRune r
theorem encC_le (c r : Int) : (encC c r).length ≤ 4 := by
  unfold encC
  repeat' split
  all_goals first | exact encode_le r | simp
theorem and_1023 {x : Nat} (hx : x < 2147483648) : bits .and .i32 (x : Int) 1023 = ((x % 1024 : Nat) : Int) := by
  have h1 : x &&& 1023 = x % 1024 := Nat.and_two_pow_sub_one_eq_mod x 10
  have e : (BitVec.ofInt IntKind.i32.bits (x : Int) &&& BitVec.ofInt IntKind.i32.bits (1023 : Int)).toNat = x % 1024 := by
    rw [← h1, BitVec.ofInt_natCast, show (1023 : Int) = ((1023 : Nat) : Int) from rfl, BitVec.ofInt_natCast, BitVec.toNat_and, BitVec.toNat_ofNat, BitVec.toNat_ofNat]
    show x % 4294967296 &&& 1023 % 4294967296 = _
    rw [Nat.mod_eq_of_lt (by omega)]
  show IntKind.i32.wrap ((BitVec.ofInt IntKind.i32.bits (x : Int) &&& BitVec.ofInt IntKind.i32.bits (1023 : Int)).toNat : Int) = _
  rw [e]
  exact in_i32 (by omega) (by omega)
theorem and_r {r : Int} (h0 : 65536 ≤ r) (h1 : r ≤ 1114111) : bits .and .i32 (r - 65536) 1023 = (r - 65536) % 1024 := by
  obtain ⟨x, hx⟩ : ∃ x : Nat, r - 65536 = (x : Int) := ⟨(r - 65536).toNat, by omega⟩
  rw [hx, and_1023 (by omega)]
  omega
/-- What holds what Encode has written so far: its variable, and the row in it. -/
def Ao (go : Nat) (tb : TypeId) (n : Nat) (xs : List UInt8) (T : List Ck) : Prop := (∃ so cap, T = [.obj go (.cells #[.slice so xs.length cap] tb), .row BY 1 (.slice so xs.length cap) xs.length (byteCells xs)]) ∧ xs.length + 4 * n ≤ 100000000
/-- A character that the codec has, behind bytes. -/
def putC (c : Int) (xs : List UInt8) (r : Int) : List UInt8 × Bool := if hasC c r = true then (xs ++ encC c r, true) else (xs, false)
where hasC (c r : Int) : Bool := c != 2 || decide (r ≤ 255)
end Go.Proofs.Ytbdhfooeanbnlaa
