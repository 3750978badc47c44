/- Pn Pt ShelfR RdA RdB RdD ChM ChA ShelfD ShelfB ChD ChE ChF ChR RdE RdF Ps ShelfI ChS RdG -/
import Derived.Test.YtclkfideaameoaaGreatDoorPdatumb11s
import Derived.Shelf.Strings.Builder1
import Derived.Shelf.Small.Utf8
import Derived.Shelf.Small.Bits
import Derived.Shelf.Small.Strs
import Derived.Shelf.Small.Wraps
import Derived.Shelf.Strings.BuilderF
import Derived.Shelf.Strings.BuilderK
import Derived.Shelf.Strings.BuilderRune
import Derived.Shelf.Utf8.AppendRunePlain
import Derived.Shelf.Utf8.RuneCount
import Derived.Shelf.Strconv.Itoa0
import Derived.Shelf.Strconv.Itoa1
import Derived.Shelf.LaysM
import Derived.Shelf.Strconv.Itoa2
import Derived.Shelf.Strconv.Itoa3
import Derived.Shelf.Strconv.Clone
import Derived.Shelf.Strconv.SyntaxError
import Derived.Shelf.LaysC
import Derived.Shelf.Strconv.ToError
import Derived.Shelf.Strconv.Lower
import Derived.Shelf.Strconv.RangeError
import Derived.Shelf.Strconv.ToErrorRange
import Derived.Shelf.Strings.Search1
import Derived.Shelf.Strings.Search2
import Derived.Shelf.Strings.Cut
import Derived.Shelf.Strings.Shaped
import Derived.Shelf.Strings.Prefix
import Derived.Shelf.Strings.Runes
import Derived.Shelf.Strings.IndexAny
import Derived.Shelf.Strings.AsciiSet
import Derived.Shelf.Strings.IndexAnyAll
import Derived.Shelf.Unicode.DecodeSlow
import Derived.Shelf.Unicode.DecodeAny
import Derived.Test.YtclkfideaameoaaGreatDoorProg
import Derived.Test.YtclkfideaameoaaGreatDoorPdatumb11
import Derived.Test.YtclkfideaameoaaGreatDoorPdatumb11
import Derived.Lib.RuneBytes
import Derived.RowKit
import Derived.WalkKit
import Derived.WalkSpells
import Derived.Deep.Light
import Derived.Shelf.Unicode.ValidAny
import Derived.Lib.TrimAscii
import Derived.Test.YtclkfideaameoaaGreatDoorShelf
import Derived.Laws.Runes
import Derived.Laws.Strings3
import Derived.Scope
import Derived.Shelf.RegionOpenPlain
import Derived.ScopeJumps
import Derived.Lib.TrimUEq
import Derived.Lib.OthersKept
import Derived.Test.YtclkfideaameoaaGreatDoorOwn
set_option linter.unusedVariables false
set_option linter.unusedSimpArgs false
set_option maxHeartbeats 1000000
namespace Go.Proofs.YtclkfideaameoaaGreatDoor.G
open Go.RowKit
section
variable {P : Program} {ops : List Oper} {Q : Exit → Act → World → Prop} {a : Act} {w : World} {n : Nat} {l : List (Nat × Value)} {o : Oper} {rest : List Oper}
theorem zq (hA : Sl a n l) (hg : xl l ops o = true) {d : Nat} (hdst : o.dst = some d) (hd : Nat.blt d n = true) {f : FuncId} {vs : List Value} (he : Enters P l o w f vs)
    {R : Ending → World → Prop} (hc : Calls P f vs.toArray w R)
    (hk : ∀ e w', R e w' → (∃ ch, e = .panicked ch ∧ Q (.panic ch) a w') ∨ ∃ v, e = .returned v ∧ ∀ a', Sl a' n ((d, v) :: l) → wpList P ops.toArray Q rest a' w') : wpList P ops.toArray Q (o :: rest) a w := by
  unfold wpList
  rw [if_pos (hA.wanted hg)]
  refine .inl ?_
  unfold Oper.wp
  rw [he a.eval (fun x u hx => hA.ev hx), Oper.upon_enter]
  refine hc.mono ?_
  intro e w' hR
  rcases hk e w' hR with ⟨ch, rfl, h⟩ | ⟨v, rfl, h⟩
  · exact h
  · simp only [hdst]
    exact h _ (hA.put hd v)
theorem jp (hA : Sl a n l) (hg : xl l ops o = true) {v : Value} (he : ∀ ρ : Operand → Value, (∀ x u, ev l x = some u → ρ x = u) → (execOp ρ o).run P w = .halt (.panic v) w) (hk : Q (.panic [{ v := v, recovered := false }]) a w) : wpList P ops.toArray Q (o :: rest) a w := by
  unfold wpList
  rw [if_pos (hA.wanted hg)]
  refine .inl ?_
  unfold Oper.wp
  rw [he a.eval (fun x u hx => hA.ev hx), Oper.upon_panic]
  exact hk
theorem zx {f : FuncId} {fn : Func} {c : Code} {args : List Value} {Z : Ending → World → Prop} (hf : P.funcs[f]? = some fn) (hb : fn.body = some c) (hn : fn.ntmps = n) (hl : Nat.ble args.length n = true) (hs : (args.zipIdx.map fun p => (p.2, p.1)) = l)
    (h : ∀ Q : Exit → Act → World → Prop, (∀ a w, bodyPost P fn Z .ret a w → Q .ret a w) → (∀ a w, bodyPost P fn Z .ret a w → Q .normal a w) → (∀ c a d v w, Q (.panic c) (Act.put a d v) w → Q (.panic c) a w) → (∀ ch a w m k, Sl a m k → Z (.panicked ch) w → Q (.panic ch) a w) → ∀ a, Sl a n l → c.wp P Q a w) : Calls P f args.toArray w Z := by
  subst hs
  refine calls_of_wp hf hb (h _ (fun _ _ h => h) (fun _ _ h => h) (fun c a d v w h => ?_) (fun ch a w m k hA hz => ⟨hA.none_, hz⟩) _ ?_)
  · cases d <;> exact h
  · rw [hn]
    exact Sl.enter (Nat.le_of_ble_eq_true hl)
end
def tx (l : List UInt8) : ByteArray := ⟨l.toArray⟩
abbrev rC (L : List UInt8) (p : Nat) (b : Bool) : Obj := .cells #[.string (tx L), .int .i64 ((p : Nat) : Int), .bool b] 50
theorem xj (s : ByteArray) : tx s.data.toList = s := by unfold tx; cases s; simp
theorem jf (l : List UInt8) : (tx l).size = l.length := by unfold tx; simp [ByteArray.size]
theorem xd (l : List UInt8) : (tx l).data.toList = l := by unfold tx; simp
section
variable {P : Program} {l : List (Nat × Value)} {dst : Option Tmp} {ty t : TypeId} {pos : String} {after : Array Edge} {guard : Option (Nat × Bool)} {w : World} {x y z : Operand} {s : List UInt8}
theorem zg (ht : P.underlying t = some .string) (hx : ev l x = some (.string (tx s))) : Does P l ⟨dst, .call ⟨.builtin .len, #[x], #[t]⟩, ty, pos, after, guard⟩ w (.int .i64 ((s.length : Nat) : Int)) w := fun ρ h => by
  have := h x _ hx
  rw [← jf]
  simp [go_sem, this, Builtin.len_, run_underlying ht, goInt]
theorem zb {i : Nat} {k : Int} {b : UInt8} (ht : P.underlying t = some .string) (hx : ev l x = some (.string (tx s))) (hy : ev l y = some (.int .i64 k)) (hk : k = ((i : Nat) : Int)) (hi : s[i]? = some b) : Does P l ⟨dst, .index t x y, ty, pos, after, guard⟩ w (.int .u8 ((b.toNat : Nat) : Int)) w := fun ρ h => by
  subst hk
  have := run_index_string (P := P) w t (tx s) .i64 ((i : Nat) : Int) ht
  have hl := (List.getElem?_eq_some_iff.1 hi).1
  have hi' : i < (tx s).size := by rw [jf]; exact hl
  have e : b.toNat = ((tx s)[i]'hi').toNat := by
    have h2 := (List.getElem?_eq_some_iff.1 hi).2
    rw [← h2]
    simp [tx, ByteArray.getElem_eq_getElem_data]
  rw [e]
  simp [execOp, h x _ hx, h y _ hy, this, hi']
theorem ua (s : List UInt8) (a b : Nat) (hb : b ≤ s.length) : (tx s).extract a b = tx ((s.take b).drop a) := by
  apply ByteArray.ext
  rw [ByteArray.data_extract]
  simp [tx, List.drop_take]
theorem qs {p : Nat} {k : Int} (ht : P.underlying t = some .string) (hx : ev l x = some (.string (tx s))) (hy : ev l y = some (.int .i64 k)) (hk : k = ((p : Nat) : Int)) (hp : p ≤ s.length) : Does P l ⟨dst, .slice t x (some y) none none, ty, pos, after, guard⟩ w (.string (tx (s.drop p))) w := fun ρ h => by
  subst hk
  have e : tx (s.drop p) = (tx s).extract p (tx s).size := by rw [jf, ua _ _ _ (Nat.le_refl _), List.take_length]
  rw [e]
  have h0 : p ≤ (tx s).size := by rw [jf]; exact hp
  have h1 : (0 : Int) ≤ (p : Nat) ∧ ((p : Nat) : Int) ≤ ((tx s).size : Int) := ⟨by omega, by omega⟩
  simp [execOp, h x _ hx, h y _ hy, Instr.sliceAt, Instr.slice, Instr.sliceBounds, Instr.sliceBound, asIntOf, run_underlying ht, h1]
  try (intro hc; omega)
theorem zs {p : Nat} {k : Int} (ht : P.underlying t = some .string) (hx : ev l x = some (.string (tx s))) (hy : ev l y = some (.int .i64 k)) (hk : k = ((p : Nat) : Int)) (hp : p ≤ s.length) : Does P l ⟨dst, .slice t x none (some y) none, ty, pos, after, guard⟩ w (.string (tx (s.take p))) w := fun ρ h => by
  subst hk
  have e : tx (s.take p) = (tx s).extract 0 p := by rw [ua _ _ _ hp, List.drop_zero]
  rw [e]
  have h0 : p ≤ (tx s).size := by rw [jf]; exact hp
  have h1 : (0 : Int) ≤ (p : Nat) ∧ ((p : Nat) : Int) ≤ ((tx s).size : Int) := ⟨by omega, by omega⟩
  simp [execOp, h x _ hx, h y _ hy, Instr.sliceAt, Instr.slice, Instr.sliceBounds, Instr.sliceBound, asIntOf, run_underlying ht, h1]
  try (intro hc; omega)
theorem qff {p q : Nat} {k m : Int} (ht : P.underlying t = some .string) (hx : ev l x = some (.string (tx s))) (hy : ev l y = some (.int .i64 k)) (hz : ev l z = some (.int .i64 m)) (hk : k = ((p : Nat) : Int)) (hm : m = ((q : Nat) : Int)) (hp : p ≤ q) (hq : q ≤ s.length) : Does P l ⟨dst, .slice t x (some y) (some z) none, ty, pos, after, guard⟩ w (.string (tx ((s.take q).drop p))) w := fun ρ h => by
  subst hk hm
  have e : tx ((s.take q).drop p) = (tx s).extract p q := by rw [ua _ _ _ hq]
  rw [e]
  have h0 : q ≤ (tx s).size := by rw [jf]; exact hq
  have h1 : (0 : Int) ≤ (p : Nat) ∧ ((p : Nat) : Int) ≤ ((q : Nat) : Int) ∧ ((q : Nat) : Int) ≤ ((tx s).size : Int) := ⟨by omega, by omega, by omega⟩
  have h2 : (0 : Int) ≤ (q : Nat) := by omega
  simp [execOp, h x _ hx, h y _ hy, h z _ hz, Instr.sliceAt, Instr.slice, Instr.sliceBounds, Instr.sliceBound, asIntOf, run_underlying ht, h1, h2]
  rw [if_pos h0, if_pos hp]
theorem zf {a : Addr} (hx : ev l x = some (.pointer (some a))) : Does P l ⟨dst, .nilCheck x, ty, pos, after, guard⟩ w (.pointer (some a)) w := fun ρ h => by
  simp only [execOp, h x _ hx, Sem.run_pure]
variable {a b : List UInt8}
theorem qef (a b : List UInt8) : ((tx a).toList == (tx b).toList) = decide (a = b) := by
  rw [ByteArray.toList_eq, ByteArray.toList_eq, xd, xd]
  by_cases h : a = b
  · subst h; simp
  · rw [decide_eq_false h]; exact beq_false_of_ne h
theorem qe (hu : P.underlying t = some .string) : ∀ w, (do eqGuard .eql t x y (.string (tx a)) (.string (tx b)); binOp .eql t (.string (tx a)) (.string (tx b)) : Sem Value).run P w = .ok (.bool (decide (a = b))) w := fun w => by
  rw [← qef]
  simp [go_sem, hu, run_underlying hu]
theorem qhe (hu : P.underlying t = some .string) : ∀ w, (do eqGuard .neq t x y (.string (tx a)) (.string (tx b)); binOp .neq t (.string (tx a)) (.string (tx b)) : Sem Value).run P w = .ok (.bool (!(decide (a = b)))) w := fun w => by
  rw [← qef]
  simp [go_sem, hu, run_underlying hu]
end
end Go.Proofs.YtclkfideaameoaaGreatDoor.G
namespace Go.Proofs
open Go.Shelf
def Tryz.lays145_ren : Go.Shelf.Ren := ⟨fun | 145 => 112 | 220 => 137 | 219 => 155 | 217 => 133 | 225 => 107 | 224 => 106 | 267 => 177 | 266 => 152 | 314 => 190 | n => n, fun | 9 => 9 | 4 => 4 | 59 => 135 | 3 => 3 | 5 => 5 | 46 => 71 | 146 => 187 | 51 => 99 | n => n, fun | 1 => 2 | n => n⟩
theorem Tryz.lays145 : Go.Proofs.Lays.n145 Tryz.prog Tryz.lays145_ren := {
  mixed := by kernel_rfl
  f145 := Tryz.func112.trans (congrArg some (by kernel_rfl))
  f217 := Tryz.func133.trans (congrArg some (by kernel_rfl))
  f219 := Tryz.func155.trans (congrArg some (by kernel_rfl))
  f220 := Tryz.func137.trans (congrArg some (by kernel_rfl))
  f224 := Tryz.func106.trans (congrArg some (by kernel_rfl))
  f225 := Tryz.func107.trans (congrArg some (by kernel_rfl))
  f266 := Tryz.func152.trans (congrArg some (by kernel_rfl))
  f267 := Tryz.func177.trans (congrArg some (by kernel_rfl))
  f314 := Tryz.func190.trans (congrArg some (by kernel_rfl))
  t3 := Tryz.underlying3
  a3 := Tryz.isAgg3
  z3 := Tryz.sizeOf3
  v3 := Tryz.zeroValue3
  t4 := Tryz.underlying4
  a4 := Tryz.isAgg4
  z4 := Tryz.sizeOf4
  v4 := Tryz.zeroValue4
  t5 := Tryz.underlying5
  a5 := Tryz.isAgg5
  z5 := Tryz.sizeOf5
  v5 := Tryz.zeroValue5
  t9 := Tryz.underlying9
  a9 := Tryz.isAgg9
  z9 := Tryz.sizeOf9
  v9 := Tryz.zeroValue9
  t46 := Tryz.underlying71
  a46 := Tryz.isAgg71
  z46 := Tryz.sizeOf71
  v46 := Tryz.zeroValue71
  t51 := Tryz.underlying99
  a51 := Tryz.isAgg99
  z51 := Tryz.sizeOf99
  v51 := Tryz.zeroValue99
  t59 := Tryz.underlying135
  a59 := Tryz.isAgg135
  z59 := Tryz.sizeOf135
  v59 := Tryz.zeroValue135
  t146 := Tryz.underlying187
  a146 := Tryz.isAgg187
  z146 := Tryz.sizeOf187
  v146 := Tryz.zeroValue187
  g1 := by kernel_rfl }
open Go.RowKit Go.Lib in
theorem Tryz.strings_Cut (s sep : ByteArray) (m : Int) (w : World) (hs : s.size < 4294967281) (hm : w.cell? ⟨2, 0, none⟩ = some (.int .i64 m)) :
    Calls Tryz.prog 112 #[.string s, .string sep] w fun e w' => e = .returned (.tuple #[.string ⟨(Lib.cut s.data.toList sep.data.toList).1.toArray⟩, .string ⟨(Lib.cut s.data.toList sep.data.toList).2.1.toArray⟩, .bool (Lib.cut s.data.toList sep.data.toList).2.2]) ∧ ∃ n, w' = w.drewN n := Any.strings_Cut Tryz.lays145 s sep m w hs hm
def Tryz.lays99_ren : Go.Shelf.Ren := ⟨fun | 99 => 52 | 206 => 75 | n => n, fun | 9 => 9 | 4 => 4 | 3 => 3 | n => n, fun | n => n⟩
theorem Tryz.lays99 : Go.Proofs.Lays.n99 Tryz.prog Tryz.lays99_ren := {
  mixed := by kernel_rfl
  f99 := Tryz.func52.trans (congrArg some (by kernel_rfl))
  f206 := Tryz.func75.trans (congrArg some (by kernel_rfl))
  t3 := Tryz.underlying3
  a3 := Tryz.isAgg3
  z3 := Tryz.sizeOf3
  v3 := Tryz.zeroValue3
  t4 := Tryz.underlying4
  a4 := Tryz.isAgg4
  z4 := Tryz.sizeOf4
  v4 := Tryz.zeroValue4
  t9 := Tryz.underlying9
  a9 := Tryz.isAgg9
  z9 := Tryz.sizeOf9
  v9 := Tryz.zeroValue9 }
open Go.RowKit Go.Lib in
theorem Tryz.strings_HasPrefix (s p : ByteArray) (w : World) :
    Calls Tryz.prog 52 #[.string s, .string p] w fun e w' => e = .returned (.bool (Lib.hasPrefix s.data.toList p.data.toList)) ∧ w' = w := Any.strings_HasPrefix Tryz.lays99 s p w
def Tryz.lays152_ren : Go.Shelf.Ren := ⟨fun | 152 => 71 | 137 => 105 | 119 => 67 | 224 => 106 | 225 => 107 | 217 => 133 | 266 => 152 | n => n, fun | 9 => 9 | 21 => 21 | 3 => 3 | 4 => 4 | 5 => 5 | 0 => 0 | 46 => 71 | n => n, fun | n => n⟩
theorem Tryz.lays152 : Go.Proofs.Lays.n152 Tryz.prog Tryz.lays152_ren := {
  mixed := by kernel_rfl
  f119 := Tryz.func67.trans (congrArg some (by kernel_rfl))
  f137 := Tryz.func105.trans (congrArg some (by kernel_rfl))
  f152 := Tryz.func71.trans (congrArg some (by kernel_rfl))
  f217 := Tryz.func133.trans (congrArg some (by kernel_rfl))
  f224 := Tryz.func106.trans (congrArg some (by kernel_rfl))
  f225 := Tryz.func107.trans (congrArg some (by kernel_rfl))
  f266 := Tryz.func152.trans (congrArg some (by kernel_rfl))
  t0 := Tryz.underlying0
  a0 := Tryz.isAgg0
  z0 := Tryz.sizeOf0
  v0 := Tryz.zeroValue0
  t3 := Tryz.underlying3
  a3 := Tryz.isAgg3
  z3 := Tryz.sizeOf3
  v3 := Tryz.zeroValue3
  t4 := Tryz.underlying4
  a4 := Tryz.isAgg4
  z4 := Tryz.sizeOf4
  v4 := Tryz.zeroValue4
  t5 := Tryz.underlying5
  a5 := Tryz.isAgg5
  z5 := Tryz.sizeOf5
  v5 := Tryz.zeroValue5
  t9 := Tryz.underlying9
  a9 := Tryz.isAgg9
  z9 := Tryz.sizeOf9
  v9 := Tryz.zeroValue9
  t21 := Tryz.underlying21
  a21 := Tryz.isAgg21
  z21 := Tryz.sizeOf21
  v21 := Tryz.zeroValue21
  t46 := Tryz.underlying71
  a46 := Tryz.isAgg71
  z46 := Tryz.sizeOf71
  v46 := Tryz.zeroValue71 }
open Go.RowKit Go.Lib in
theorem Tryz.strings_IndexRune_ascii (s : ByteArray) (r : Int) (w : World) (h0 : 0 ≤ r) (h1 : r < 128) :
    Calls Tryz.prog 71 #[.string s, .int .i32 r] w fun e w' => e = .returned (.int .i64 (Lib.indexByte s.data.toList r.toNat.toUInt8)) ∧ w' = w := Any.strings_IndexRune_ascii Tryz.lays152 s r w h0 h1
def Tryz.lays197_ren : Go.Shelf.Ren := ⟨fun | 197 => 29 | 260 => 50 | n => n, fun | 9 => 9 | 21 => 21 | 3 => 3 | 4 => 4 | 5 => 5 | 105 => 59 | 119 => 67 | 0 => 0 | 46 => 71 | 139 => 70 | 138 => 69 | n => n, fun | 3 => 0 | 4 => 1 | n => n⟩
theorem Tryz.lays197 : Go.Proofs.Lays.n197 Tryz.prog Tryz.lays197_ren := {
  mixed := by kernel_rfl
  f197 := Tryz.func29.trans (congrArg some (by kernel_rfl))
  f260 := Tryz.func50.trans (congrArg some (by kernel_rfl))
  t0 := Tryz.underlying0
  a0 := Tryz.isAgg0
  z0 := Tryz.sizeOf0
  v0 := Tryz.zeroValue0
  t3 := Tryz.underlying3
  a3 := Tryz.isAgg3
  z3 := Tryz.sizeOf3
  v3 := Tryz.zeroValue3
  t4 := Tryz.underlying4
  a4 := Tryz.isAgg4
  z4 := Tryz.sizeOf4
  v4 := Tryz.zeroValue4
  t5 := Tryz.underlying5
  a5 := Tryz.isAgg5
  z5 := Tryz.sizeOf5
  v5 := Tryz.zeroValue5
  t9 := Tryz.underlying9
  a9 := Tryz.isAgg9
  z9 := Tryz.sizeOf9
  v9 := Tryz.zeroValue9
  t21 := Tryz.underlying21
  a21 := Tryz.isAgg21
  z21 := Tryz.sizeOf21
  v21 := Tryz.zeroValue21
  t46 := Tryz.underlying71
  a46 := Tryz.isAgg71
  z46 := Tryz.sizeOf71
  v46 := Tryz.zeroValue71
  t105 := Tryz.underlying59
  a105 := Tryz.isAgg59
  z105 := Tryz.sizeOf59
  v105 := Tryz.zeroValue59
  t119 := Tryz.underlying67
  a119 := Tryz.isAgg67
  z119 := Tryz.sizeOf67
  t138 := Tryz.underlying69
  a138 := Tryz.isAgg69
  z138 := Tryz.sizeOf69
  v138 := Tryz.zeroValue69
  t139 := Tryz.underlying70
  a139 := Tryz.isAgg70
  z139 := Tryz.sizeOf70
  v139 := Tryz.zeroValue70
  g3 := by kernel_rfl
  g4 := by kernel_rfl }
open Go.RowKit Go.Lib in
theorem Tryz.utf8_DecodeRuneInString (s : ByteArray) (w : World) (hT : Lib.Utf8Tabs 0 1 w) :
    Calls Tryz.prog 29 #[.string s] w fun e w' => e = .returned (.tuple #[.int .i32 (Lib.decodeGo s).1, .int .i64 (Lib.decodeGo s).2]) ∧ Below w.heap.size w w' := Any.utf8_DecodeRuneInString Tryz.lays197 s w hT
end Go.Proofs
namespace Go.Proofs.YtclkfideaameoaaGreatDoor.G
open Go.RowKit
theorem jm {W : World} {s : ByteArray} {z : Int} (hE : Env W) (hs : s.size ≤ 140737488351232) (h0 : 0 ≤ z) (h1 : z ≤ 255) : Calls Tryz.prog 5 #[.string s, .int .u8 z] W fun e w' => e = .returned (bV true) ∧ Below W.heap.size W w' := by
 obtain ⟨k, rfl⟩ := Int.eq_ofNat_of_zero_le h0
 have h := blanks_any (L := s.data.toList) (k := k) hE (by rw [Array.length_toList]; exact Nat.le_trans hs (by decide)) (by omega)
 have e : tx s.data.toList = s := xj s
 rwa [e] at h
end Go.Proofs.YtclkfideaameoaaGreatDoor.G
namespace Go.Proofs.YtclkfideaameoaaGreatDoor.G
open Go.RowKit
set_option maxRecDepth 100000
theorem RdA_is1_3 : Is1 Tryz.prog 3 := ⟨⟨_, Tryz.underlying3, rfl⟩, by kernel_rfl⟩
theorem RdA_is1_9 : Is1 Tryz.prog 9 := ⟨⟨_, Tryz.underlying9, rfl⟩, by kernel_rfl⟩
theorem RdA_fld_50_0 : FieldAt Tryz.prog 50 0 0 := ⟨_, _, Tryz.underlying50, rfl, rfl, by kernel_rfl⟩
theorem RdA_fld_50_1 : FieldAt Tryz.prog 50 1 1 := ⟨_, _, Tryz.underlying50, rfl, rfl, by kernel_rfl⟩
def flt : List PanicEntry := [{ v := .iface 47 (.agg #[]), recovered := false }]
theorem zy {P : Program} {w : World} {l : List (Nat × Value)} {dst : Option Tmp} {ty t : TypeId} {pos : String} {after : Array Edge} {guard : Option (Nat × Bool)} {x : Operand} {v : Value} (ht : P.concrete t = true) (hx : ev l x = some v) : Does P l ⟨dst, .makeInterface t x, ty, pos, after, guard⟩ w (.iface t v) w := fun ρ h => by
 simp [execOp, h x _ hx, run_makeInterface w t v ht]
theorem jn {w : World} : Calls Tryz.prog 23 #[bV true] w fun e w' => e = .returned (.tuple #[]) ∧ Below w.heap.size w w' := by
 have M : Mg w w ([]) := Mg.start w
 refine qr (l := [(0, bV true)]) Tryz.func23 rfl Tryz.ntmps23 rfl rfl ?_
 intro Q hret hnorm hP a A
 refine wsk fun K1 hK1 => wrl (sdm A λa A↦?_)
 refine sdo (v := bV false) A (zm rfl zr) λa A↦?_
 refine qa (hK1 _ _ (cf A ?_))
 refine wp_skip (hnorm _ _ (xk (v := .tuple #[]) A rfl .nil rfl ?_))
 exact ⟨rfl, M.bel⟩
theorem zw {w : World} : Calls Tryz.prog 23 #[bV false] w fun e w' => e = .panicked flt ∧ Below w.heap.size w w' := by
 have M : Mg w w ([]) := Mg.start w
 refine zx (l := [(0, bV false)]) Tryz.func23 rfl Tryz.ntmps23 rfl rfl ?_
 intro Q hret hnorm hP hX a A
 refine wsk fun K1 hK1 => wrl (sdm A λa A↦?_)
 refine sdo (v := bV true) A (zm rfl zr) λa A↦?_
 refine qa (hK1 _ _ (ct A ?_))
 refine wrl (sdo (v := .agg #[]) A (jl rfl (fun w => by kernel_rfl)) λa A↦?_)
 refine sdo (v := .iface 47 (.agg #[])) A (zy (by kernel_rfl) rfl) λa A↦?_
 refine jp (v := .iface 47 (.agg #[])) A rfl (fun ρ h => by simp only [execOp, h (.tmp 5) _ rfl]; rfl) ?_
 exact hX _ _ _ _ _ A ⟨rfl, M.bel⟩
theorem qz {w0 w : World} {g p : Nat} {lg : Bool} {L : List UInt8} {T : List Ck} (hp : p ≤ L.length) (hM0 : Mg w0 w (.obj g (rC L p lg) :: T)) : Calls Tryz.prog 21 #[pA g 0] w fun e w' => e = .returned (.string (tx (L.drop p))) ∧ Mg w0 w' (.obj g (rC L p lg) :: T) := by
 have M : Mg w0 w (.obj g (rC L p lg) :: T) := hM0
 refine qr (l := [(0, pA g 0)]) Tryz.func21 rfl Tryz.ntmps21 rfl rfl ?_
 intro Q hret hnorm hP a A
 refine wsk fun K1 hK1 => wrl (sda A λa A↦?_)
 refine qa (hK1 _ _ (wsk fun K2 hK2 => zi (S := fun w1 => Mg w0 w1 (.obj g (rC L p lg) :: [])) (by kernel_rfl) ?_))
 replace M := M.drew
 refine amv A 0 rfl hP (M.sub (cc ns)) λa A↦?_
 refine atk A 1 rfl hP (M.sub (cc ns)) (λ_ M↦zf rfl) λa A↦?_
 refine atk (v := pA g 0) A 2 rfl hP (M.sub (cc ns)) (λ_ M↦qj RdA_fld_50_0 rfl rfl) λa A↦?_
 refine atk A 3 rfl hP (M.sub (cc ns)) (λ_ M↦zt M RdA_is1_9 rfl 0 rfl rfl) λa A↦?_
 refine amv A 4 rfl hP (M.sub (cc ns)) λa A↦?_
 refine atk A 5 rfl hP (M.sub (cc ns)) (λ_ M↦zf rfl) λa A↦?_
 refine atk (v := pA g 1) A 6 rfl hP (M.sub (cc ns)) (λ_ M↦qj RdA_fld_50_1 rfl rfl) λa A↦?_
 refine atk A 7 rfl hP (M.sub (cc ns)) (λ_ M↦zt M RdA_is1_3 rfl 0 rfl rfl) λa A↦?_
 refine atk (v := .string ((tx (L.drop p)))) A 8 rfl hP (M.sub (cc ns)) (λ_ M↦qs (s := L) (p := p) Tryz.underlying9 rfl rfl rfl (by omega)) λa A↦?_
 refine atk A 9 rfl hP (M.sub (cc ns)) (λ_ M↦zd rfl) λa A↦?_
 refine qy (by kernel_rfl) ?_
 refine hK2 _ _ (wr1 hret A ?_)
 exact ⟨rfl, M⟩
end Go.Proofs.YtclkfideaameoaaGreatDoor.G
namespace Go.Proofs.YtclkfideaameoaaGreatDoor.G
open Go.RowKit
theorem jm {W : World} {s : ByteArray} {z : Int} (hE : Env W) (hs : s.size ≤ 140737488351232) (h0 : 0 ≤ z) (h1 : z ≤ 255) : Calls Tryz.prog 5 #[.string s, .int .u8 z] W fun e w' => e = .returned (bV true) ∧ Below W.heap.size W w' := by
 obtain ⟨k, rfl⟩ := Int.eq_ofNat_of_zero_le h0
 have h := blanks_any (L := s.data.toList) (k := k) hE (by rw [Array.length_toList]; exact Nat.le_trans hs (by decide)) (by omega)
 have e : tx s.data.toList = s := xj s
 rwa [e] at h
end Go.Proofs.YtclkfideaameoaaGreatDoor.G
namespace Go.Proofs.YtclkfideaameoaaGreatDoor.G
open Go.RowKit
set_option maxRecDepth 100000
theorem RdA_is1_3 : Is1 Tryz.prog 3 := ⟨⟨_, Tryz.underlying3, rfl⟩, by kernel_rfl⟩
theorem RdA_is1_9 : Is1 Tryz.prog 9 := ⟨⟨_, Tryz.underlying9, rfl⟩, by kernel_rfl⟩
theorem RdA_fld_50_0 : FieldAt Tryz.prog 50 0 0 := ⟨_, _, Tryz.underlying50, rfl, rfl, by kernel_rfl⟩
theorem RdA_fld_50_1 : FieldAt Tryz.prog 50 1 1 := ⟨_, _, Tryz.underlying50, rfl, rfl, by kernel_rfl⟩
def flt : List PanicEntry := [{ v := .iface 47 (.agg #[]), recovered := false }]
theorem zy {P : Program} {w : World} {l : List (Nat × Value)} {dst : Option Tmp} {ty t : TypeId} {pos : String} {after : Array Edge} {guard : Option (Nat × Bool)} {x : Operand} {v : Value} (ht : P.concrete t = true) (hx : ev l x = some v) : Does P l ⟨dst, .makeInterface t x, ty, pos, after, guard⟩ w (.iface t v) w := fun ρ h => by
 simp [execOp, h x _ hx, run_makeInterface w t v ht]
theorem jn {w : World} : Calls Tryz.prog 23 #[bV true] w fun e w' => e = .returned (.tuple #[]) ∧ Below w.heap.size w w' := by
 have M : Mg w w ([]) := Mg.start w
 refine qr (l := [(0, bV true)]) Tryz.func23 rfl Tryz.ntmps23 rfl rfl ?_
 intro Q hret hnorm hP a A
 refine wsk fun K1 hK1 => wrl (sdm A λa A↦?_)
 refine sdo (v := bV false) A (zm rfl zr) λa A↦?_
 refine qa (hK1 _ _ (cf A ?_))
 refine wp_skip (hnorm _ _ (xk (v := .tuple #[]) A rfl .nil rfl ?_))
 exact ⟨rfl, M.bel⟩
theorem zw {w : World} : Calls Tryz.prog 23 #[bV false] w fun e w' => e = .panicked flt ∧ Below w.heap.size w w' := by
 have M : Mg w w ([]) := Mg.start w
 refine zx (l := [(0, bV false)]) Tryz.func23 rfl Tryz.ntmps23 rfl rfl ?_
 intro Q hret hnorm hP hX a A
 refine wsk fun K1 hK1 => wrl (sdm A λa A↦?_)
 refine sdo (v := bV true) A (zm rfl zr) λa A↦?_
 refine qa (hK1 _ _ (ct A ?_))
 refine wrl (sdo (v := .agg #[]) A (jl rfl (fun w => by kernel_rfl)) λa A↦?_)
 refine sdo (v := .iface 47 (.agg #[])) A (zy (by kernel_rfl) rfl) λa A↦?_
 refine jp (v := .iface 47 (.agg #[])) A rfl (fun ρ h => by simp only [execOp, h (.tmp 5) _ rfl]; rfl) ?_
 exact hX _ _ _ _ _ A ⟨rfl, M.bel⟩
theorem qz {w0 w : World} {g p : Nat} {lg : Bool} {L : List UInt8} {T : List Ck} (hp : p ≤ L.length) (hM0 : Mg w0 w (.obj g (rC L p lg) :: T)) : Calls Tryz.prog 21 #[pA g 0] w fun e w' => e = .returned (.string (tx (L.drop p))) ∧ Mg w0 w' (.obj g (rC L p lg) :: T) := by
 have M : Mg w0 w (.obj g (rC L p lg) :: T) := hM0
 refine qr (l := [(0, pA g 0)]) Tryz.func21 rfl Tryz.ntmps21 rfl rfl ?_
 intro Q hret hnorm hP a A
 refine wsk fun K1 hK1 => wrl (sda A λa A↦?_)
 refine qa (hK1 _ _ (wsk fun K2 hK2 => zi (S := fun w1 => Mg w0 w1 (.obj g (rC L p lg) :: [])) (by kernel_rfl) ?_))
 replace M := M.drew
 refine amv A 0 rfl hP (M.sub (cc ns)) λa A↦?_
 refine atk A 1 rfl hP (M.sub (cc ns)) (λ_ M↦zf rfl) λa A↦?_
 refine atk (v := pA g 0) A 2 rfl hP (M.sub (cc ns)) (λ_ M↦qj RdA_fld_50_0 rfl rfl) λa A↦?_
 refine atk A 3 rfl hP (M.sub (cc ns)) (λ_ M↦zt M RdA_is1_9 rfl 0 rfl rfl) λa A↦?_
 refine amv A 4 rfl hP (M.sub (cc ns)) λa A↦?_
 refine atk A 5 rfl hP (M.sub (cc ns)) (λ_ M↦zf rfl) λa A↦?_
 refine atk (v := pA g 1) A 6 rfl hP (M.sub (cc ns)) (λ_ M↦qj RdA_fld_50_1 rfl rfl) λa A↦?_
 refine atk A 7 rfl hP (M.sub (cc ns)) (λ_ M↦zt M RdA_is1_3 rfl 0 rfl rfl) λa A↦?_
 refine atk (v := .string ((tx (L.drop p)))) A 8 rfl hP (M.sub (cc ns)) (λ_ M↦qs (s := L) (p := p) Tryz.underlying9 rfl rfl rfl (by omega)) λa A↦?_
 refine atk A 9 rfl hP (M.sub (cc ns)) (λ_ M↦zd rfl) λa A↦?_
 refine qy (by kernel_rfl) ?_
 refine hK2 _ _ (wr1 hret A ?_)
 exact ⟨rfl, M⟩
end Go.Proofs.YtclkfideaameoaaGreatDoor.G
∧ Mg w0 w' (.obj g (rC L p lg) :: T) := by
 have M : Mg w0 w (.obj g (rC L p lg) :: T) := hM0
 refine qr (l := [(0, pA g 0), (1, .string ((tx t)))]) Tryz.func32 rfl Tryz.ntmps32 rfl rfl ?_
 intro Q hret hnorm hP a A
 refine wsk fun K1 hK1 => wrl (sda A λa A↦?_)
 refine qa (hK1 _ _ (wsk fun K2 hK2 => wsk fun K3 hK3 => wrl (sdm A λa A↦?_)))
 refine sct A (ef rfl rfl) (qz (p := p) (L := L) (T := (T)) (by omega) M) ?_
 rintro _ w5 ⟨rfl, hM4⟩
 replace M : Mg w0 w5 (.obj g (rC L p lg) :: T) := hM4
 refine ⟨_, rfl, ?_⟩
 intro a A
 refine sdm A λa A↦?_
 refine gcl A M (ef rfl rfl) ((hp_as hh)) fun w7 hb6 M a A => ?_
 refine sdo (v := bV true) A (zm rfl zr) λa A↦?_
 refine qa (hK3 _ _ (ct A ?_))
 refine wsk fun K8 hK8 => wrl (sda A λa A↦?_)
 refine qa (hK8 _ _ (wr1 hret A ?_))
 exact ⟨rfl, M⟩
theorem xa {w0 w : World} {g p : Nat} {lg : Bool} {L : List UInt8} {T : List Ck} (hT : Tb w0) (hp : p ≤ L.length) (hl : L.length ≤ 1000000000) (hne : L.drop p ≠ []) (hM0 : Mg w0 w (.obj g (rC L p lg) :: T)) : Calls Tryz.prog 53 #[pA g 0] w fun e w' => e = .returned (.int .i32 (((dcX (L.drop p)).1 : Nat) : Int)) ∧ Mg w0 w' (.obj g (rC L (p + (dcX (L.drop p)).2) lg) :: T) := by
 obtain ⟨hw1, hw2⟩ := dcX_wide hne
 rw [List.length_drop] at hw2
 have M : Mg w0 w (.obj g (rC L p lg) :: T) := hM0
 refine qr (l := [(0, pA g 0)]) Tryz.func53 rfl Tryz.ntmps53 rfl rfl ?_
 intro Q hret hnorm hP a A
 refine wsk fun K1 hK1 => wrl (sda A λa A↦?_)
 refine qa (hK1 _ _ (wsk fun K2 hK2 => wrl (sdm A λa A↦?_)))
 refine sct A (ef rfl rfl) (qz (p := p) (L := L) (T := (T)) (by omega) M) ?_
 rintro _ w4 ⟨rfl, hM3⟩
 replace M : Mg w0 w4 (.obj g (rC L p lg) :: T) := hM3
 refine ⟨_, rfl, ?_⟩
 intro a A
 refine gcl A M (ef rfl rfl) (dc_any (l := L.drop p) (hT.below M.bel)) fun w6 hb5 M a A => ?_
 refine sdm A λa A↦?_
 iterate 2 refine sdo A (qp (vs := [.int .i32 ((((dcX (L.drop p)).1 : Nat) : Int)), iV ((((dcX (L.drop p)).2 : Nat) : Int))]) rfl rfl) λa A↦?_
 iterate 2 refine sda A λa A↦?_
 refine qa (hK2 _ _ (wsk fun K7 hK7 => wrl (sdm A λa A↦?_)))
 refine sdo (v := bV true) A (qb rfl rfl (fun w => (qx w).trans (by rw [show (decide (0 < (((dcX (L.drop p)).2 : Nat) : Int))) = true from (decide_eq_true (by omega))]))) λa A↦?_
 refine gcl A M (ef rfl rfl) (jn) fun w9 hb8 M a A => ?_
 refine qa (hK7 _ _ (wsk fun K10 hK10 => wrl (sdm A λa A↦?_)))
 refine sdo A (zf rfl) λa A↦?_
 refine sdo (v := pA g 1) A (qj RdB_fld_50_1 rfl rfl) λa A↦?_
 refine sdo A (zt M RdB_is1_3 rfl 0 rfl rfl) λa A↦?_
 refine sdm A λa A↦?_
 refine sdo (v := iV (((p + (dcX (L.drop p)).2 : Nat) : Int))) A (qb rfl rfl (ar_add ((in_i64 (by omega) (by omega)).trans (by omega)))) λa A↦?_
 refine sdo A (zf rfl) λa A↦?_
 refine sdo (v := pA g 1) A (qj RdB_fld_50_1 rfl rfl) λa A↦?_
 refine jz (L' := (.obj g (rC L (p + (dcX (L.drop p)).2) lg) :: T)) A M rfl rfl (jy rfl rfl rfl (by kernel_rfl) M 0 rfl rfl rfl) 0 rfl rfl rfl ?_
 intro w11 M
 refine qa (hK10 _ _ (wsk fun K12 hK12 => wrl (sdm A λa A↦?_)))
 refine sda A λa A↦?_
 refine qa (hK12 _ _ (wr1 hret A ?_))
 exact ⟨rfl, M⟩
theorem jt {w0 w : World} {g p : Nat} {lg : Bool} {L : List UInt8} {T : List Ck} (hT : Tb w0) (hp : p ≤ L.length) (hl : L.length ≤ 1000000000) (hne : L.drop p = []) (hM0 : Mg w0 w (.obj g (rC L p lg) :: T)) : Calls Tryz.prog 53 #[pA g 0] w fun e w' => e = .panicked flt ∧ Mg w0 w' (.obj g (rC L p lg) :: T) := by
 have hw1 : (dcX (L.drop p)).2 = 0 := by rw [hne]; rfl
 have M : Mg w0 w (.obj g (rC L p lg) :: T) := hM0
 refine zx (l := [(0, pA g 0)]) Tryz.func53 rfl Tryz.ntmps53 rfl rfl ?_
 intro Q hret hnorm hP hX a A
 refine wsk fun K1 hK1 => wrl (sda A λa A↦?_)
 refine qa (hK1 _ _ (wsk fun K2 hK2 => wrl (sdm A λa A↦?_)))
 refine sct A (ef rfl rfl) (qz (p := p) (L := L) (T := (T)) (by omega) M) ?_
 rintro _ w4 ⟨rfl, hM3⟩
 replace M : Mg w0 w4 (.obj g (rC L p lg) :: T) := hM3
 refine ⟨_, rfl, ?_⟩
 intro a A
 refine gcl A M (ef rfl rfl) (dc_any (l := L.drop p) (hT.below M.bel)) fun w6 hb5 M a A => ?_
 refine sdm A λa A↦?_
 iterate 2 refine sdo A (qp (vs := [.int .i32 ((((dcX (L.drop p)).1 : Nat) : Int)), iV ((((dcX (L.drop p)).2 : Nat) : Int))]) rfl rfl) λa A↦?_
 iterate 2 refine sda A λa A↦?_
 refine qa (hK2 _ _ (wsk fun K7 hK7 => wrl (sdm A λa A↦?_)))
 refine sdo (v := bV false) A (qb rfl rfl (fun w => (qx w).trans (by rw [show (decide (0 < (((dcX (L.drop p)).2 : Nat) : Int))) = false from (decide_eq_false (by omega))]))) λa A↦?_
 refine zq A rfl rfl rfl (ef rfl rfl) (zw) ?_
 rintro _ w9 ⟨rfl, hp10⟩
 exact .inl ⟨_, rfl, hX _ _ _ _ _ A (⟨rfl, M.call hp10⟩)⟩
end Go.Proofs.YtclkfideaameoaaGreatDoor.G
namespace Go.Proofs.YtclkfideaameoaaGreatDoor.G
open Go.RowKit
theorem jm {W : World} {s : ByteArray} {z : Int} (hE : Env W) (hs : s.size ≤ 140737488351232) (h0 : 0 ≤ z) (h1 : z ≤ 255) : Calls Tryz.prog 5 #[.string s, .int .u8 z] W fun e w' => e = .returned (bV true) ∧ Below W.heap.size W w' := by
 obtain ⟨k, rfl⟩ := Int.eq_ofNat_of_zero_le h0
 have h := blanks_any (L := s.data.toList) (k := k) hE (by rw [Array.length_toList]; exact Nat.le_trans hs (by decide)) (by omega)
 have e : tx s.data.toList = s := xj s
 rwa [e] at h
end Go.Proofs.YtclkfideaameoaaGreatDoor.G
namespace Go.Proofs.YtclkfideaameoaaGreatDoor.G
open Go.RowKit
set_option maxRecDepth 100000
theorem RdA_is1_3 : Is1 Tryz.prog 3 := ⟨⟨_, Tryz.underlying3, rfl⟩, by kernel_rfl⟩
theorem RdA_is1_9 : Is1 Tryz.prog 9 := ⟨⟨_, Tryz.underlying9, rfl⟩, by kernel_rfl⟩
theorem RdA_fld_50_0 : FieldAt Tryz.prog 50 0 0 := ⟨_, _, Tryz.underlying50, rfl, rfl, by kernel_rfl⟩
theorem RdA_fld_50_1 : FieldAt Tryz.prog 50 1 1 := ⟨_, _, Tryz.underlying50, rfl, rfl, by kernel_rfl⟩
def flt : List PanicEntry := [{ v := .iface 47 (.agg #[]), recovered := false }]
theorem zy {P : Program} {w : World} {l : List (Nat × Value)} {dst : Option Tmp} {ty t : TypeId} {pos : String} {after : Array Edge} {guard : Option (Nat × Bool)} {x : Operand} {v : Value} (ht : P.concrete t = true) (hx : ev l x = some v) : Does P l ⟨dst, .makeInterface t x, ty, pos, after, guard⟩ w (.iface t v) w := fun ρ h => by
 simp [execOp, h x _ hx, run_makeInterface w t v ht]
theorem jn {w : World} : Calls Tryz.prog 23 #[bV true] w fun e w' => e = .returned (.tuple #[]) ∧ Below w.heap.size w w' := by
 have M : Mg w w ([]) := Mg.start w
 refine qr (l := [(0, bV true)]) Tryz.func23 rfl Tryz.ntmps23 rfl rfl ?_
 intro Q hret hnorm hP a A
 refine wsk fun K1 hK1 => wrl (sdm A λa A↦?_)
 refine sdo (v := bV false) A (zm rfl zr) λa A↦?_
 refine qa (hK1 _ _ (cf A ?_))
 refine wp_skip (hnorm _ _ (xk (v := .tuple #[]) A rfl .nil rfl ?_))
 exact ⟨rfl, M.bel⟩
theorem zw {w : World} : Calls Tryz.prog 23 #[bV false] w fun e w' => e = .panicked flt ∧ Below w.heap.size w w' := by
 have M : Mg w w ([]) := Mg.start w
 refine zx (l := [(0, bV false)]) Tryz.func23 rfl Tryz.ntmps23 rfl rfl ?_
 intro Q hret hnorm hP hX a A
 refine wsk fun K1 hK1 => wrl (sdm A λa A↦?_)
 refine sdo (v := bV true) A (zm rfl zr) λa A↦?_
 refine qa (hK1 _ _ (ct A ?_))
 refine wrl (sdo (v := .agg #[]) A (jl rfl (fun w => by kernel_rfl)) λa A↦?_)
 refine sdo (v := .iface 47 (.agg #[])) A (zy (by kernel_rfl) rfl) λa A↦?_
 refine jp (v := .iface 47 (.agg #[])) A rfl (fun ρ h => by simp only [execOp, h (.tmp 5) _ rfl]; rfl) ?_
 exact hX _ _ _ _ _ A ⟨rfl, M.bel⟩
theorem qz {w0 w : World} {g p : Nat} {lg : Bool} {L : List UInt8} {T : List Ck} (hp : p ≤ L.length) (hM0 : Mg w0 w (.obj g (rC L p lg) :: T)) : Calls Tryz.prog 21 #[pA g 0] w fun e w' => e = .returned (.string (tx (L.drop p))) ∧ Mg w0 w' (.obj g (rC L p lg) :: T) := by
 have M : Mg w0 w (.obj g (rC L p lg) :: T) := hM0
 refine qr (l := [(0, pA g 0)]) Tryz.func21 rfl Tryz.ntmps21 rfl rfl ?_
 intro Q hret hnorm hP a A
 refine wsk fun K1 hK1 => wrl (sda A λa A↦?_)
 refine qa (hK1 _ _ (wsk fun K2 hK2 => zi (S := fun w1 => Mg w0 w1 (.obj g (rC L p lg) :: [])) (by kernel_rfl) ?_))
 replace M := M.drew
 refine amv A 0 rfl hP (M.sub (cc ns)) λa A↦?_
 refine atk A 1 rfl hP (M.sub (cc ns)) (λ_ M↦zf rfl) λa A↦?_
 refine atk (v := pA g 0) A 2 rfl hP (M.sub (cc ns)) (λ_ M↦qj RdA_fld_50_0 rfl rfl) λa A↦?_
 refine atk A 3 rfl hP (M.sub (cc ns)) (λ_ M↦zt M RdA_is1_9 rfl 0 rfl rfl) λa A↦?_
 refine amv A 4 rfl hP (M.sub (cc ns)) λa A↦?_
 refine atk A 5 rfl hP (M.sub (cc ns)) (λ_ M↦zf rfl) λa A↦?_
 refine atk (v := pA g 1) A 6 rfl hP (M.sub (cc ns)) (λ_ M↦qj RdA_fld_50_1 rfl rfl) λa A↦?_
 refine atk A 7 rfl hP (M.sub (cc ns)) (λ_ M↦zt M RdA_is1_3 rfl 0 rfl rfl) λa A↦?_
 refine atk (v := .string ((tx (L.drop p)))) A 8 rfl hP (M.sub (cc ns)) (λ_ M↦qs (s := L) (p := p) Tryz.underlying9 rfl rfl rfl (by omega)) λa A↦?_
 refine atk A 9 rfl hP (M.sub (cc ns)) (λ_ M↦zd rfl) λa A↦?_
 refine qy (by kernel_rfl) ?_
 refine hK2 _ _ (wr1 hret A ?_)
 exact ⟨rfl, M⟩
end Go.Proofs.YtclkfideaameoaaGreatDoor.G
∧ Mg w0 w' (.obj g (rC L p lg) :: T) := by
 have M : Mg w0 w (.obj g (rC L p lg) :: T) := hM0
 refine qr (l := [(0, pA g 0), (1, .string ((tx t)))]) Tryz.func32 rfl Tryz.ntmps32 rfl rfl ?_
 intro Q hret hnorm hP a A
 refine wsk fun K1 hK1 => wrl (sda A λa A↦?_)
 refine qa (hK1 _ _ (wsk fun K2 hK2 => wsk fun K3 hK3 => wrl (sdm A λa A↦?_)))
 refine sct A (ef rfl rfl) (qz (p := p) (L := L) (T := (T)) (by omega) M) ?_
 rintro _ w5 ⟨rfl, hM4⟩
 replace M : Mg w0 w5 (.obj g (rC L p lg) :: T) := hM4
 refine ⟨_, rfl, ?_⟩
 intro a A
 refine sdm A λa A↦?_
 refine gcl A M (ef rfl rfl) ((hp_as hh)) fun w7 hb6 M a A => ?_
 refine sdo (v := bV true) A (zm rfl zr) λa A↦?_
 refine qa (hK3 _ _ (ct A ?_))
 refine wsk fun K8 hK8 => wrl (sda A λa A↦?_)
 refine qa (hK8 _ _ (wr1 hret A ?_))
 exact ⟨rfl, M⟩
theorem xa {w0 w : World} {g p : Nat} {lg : Bool} {L : List UInt8} {T : List Ck} (hT : Tb w0) (hp : p ≤ L.length) (hl : L.length ≤ 1000000000) (hne : L.drop p ≠ []) (hM0 : Mg w0 w (.obj g (rC L p lg) :: T)) : Calls Tryz.prog 53 #[pA g 0] w fun e w' => e = .returned (.int .i32 (((dcX (L.drop p)).1 : Nat) : Int)) ∧ Mg w0 w' (.obj g (rC L (p + (dcX (L.drop p)).2) lg) :: T) := by
 obtain ⟨hw1, hw2⟩ := dcX_wide hne
 rw [List.length_drop] at hw2
 have M : Mg w0 w (.obj g (rC L p lg) :: T) := hM0
 refine qr (l := [(0, pA g 0)]) Tryz.func53 rfl Tryz.ntmps53 rfl rfl ?_
 intro Q hret hnorm hP a A
 refine wsk fun K1 hK1 => wrl (sda A λa A↦?_)
 refine qa (hK1 _ _ (wsk fun K2 hK2 => wrl (sdm A λa A↦?_)))
 refine sct A (ef rfl rfl) (qz (p := p) (L := L) (T := (T)) (by omega) M) ?_
 rintro _ w4 ⟨rfl, hM3⟩
 replace M : Mg w0 w4 (.obj g (rC L p lg) :: T) := hM3
 refine ⟨_, rfl, ?_⟩
 intro a A
 refine gcl A M (ef rfl rfl) (dc_any (l := L.drop p) (hT.below M.bel)) fun w6 hb5 M a A => ?_
 refine sdm A λa A↦?_
 iterate 2 refine sdo A (qp (vs := [.int .i32 ((((dcX (L.drop p)).1 : Nat) : Int)), iV ((((dcX (L.drop p)).2 : Nat) : Int))]) rfl rfl) λa A↦?_
 iterate 2 refine sda A λa A↦?_
 refine qa (hK2 _ _ (wsk fun K7 hK7 => wrl (sdm A λa A↦?_)))
 refine sdo (v := bV true) A (qb rfl rfl (fun w => (qx w).trans (by rw [show (decide (0 < (((dcX (L.drop p)).2 : Nat) : Int))) = true from (decide_eq_true (by omega))]))) λa A↦?_
 refine gcl A M (ef rfl rfl) (jn) fun w9 hb8 M a A => ?_
 refine qa (hK7 _ _ (wsk fun K10 hK10 => wrl (sdm A λa A↦?_)))
 refine sdo A (zf rfl) λa A↦?_
 refine sdo (v := pA g 1) A (qj RdB_fld_50_1 rfl rfl) λa A↦?_
 refine sdo A (zt M RdB_is1_3 rfl 0 rfl rfl) λa A↦?_
 refine sdm A λa A↦?_
 refine sdo (v := iV (((p + (dcX (L.drop p)).2 : Nat) : Int))) A (qb rfl rfl (ar_add ((in_i64 (by omega) (by omega)).trans (by omega)))) λa A↦?_
 refine sdo A (zf rfl) λa A↦?_
 refine sdo (v := pA g 1) A (qj RdB_fld_50_1 rfl rfl) λa A↦?_
 refine jz (L' := (.obj g (rC L (p + (dcX (L.drop p)).2) lg) :: T)) A M rfl rfl (jy rfl rfl rfl (by kernel_rfl) M 0 rfl rfl rfl) 0 rfl rfl rfl ?_
 intro w11 M
 refine qa (hK10 _ _ (wsk fun K12 hK12 => wrl (sdm A λa A↦?_)))
 refine sda A λa A↦?_
 refine qa (hK12 _ _ (wr1 hret A ?_))
 exact ⟨rfl, M⟩
theorem jt {w0 w : World} {g p : Nat} {lg : Bool} {L : List UInt8} {T : List Ck} (hT : Tb w0) (hp : p ≤ L.length) (hl : L.length ≤ 1000000000) (hne : L.drop p = []) (hM0 : Mg w0 w (.obj g (rC L p lg) :: T)) : Calls Tryz.prog 53 #[pA g 0] w fun e w' => e = .panicked flt ∧ Mg w0 w' (.obj g (rC L p lg) :: T) := by
 have hw1 : (dcX (L.drop p)).2 = 0 := by rw [hne]; rfl
 have M : Mg w0 w (.obj g (rC L p lg) :: T) := hM0
 refine zx (l := [(0, pA g 0)]) Tryz.func53 rfl Tryz.ntmps53 rfl rfl ?_
 intro Q hret hnorm hP hX a A
 refine wsk fun K1 hK1 => wrl (sda A λa A↦?_)
 refine qa (hK1 _ _ (wsk fun K2 hK2 => wrl (sdm A λa A↦?_)))
 refine sct A (ef rfl rfl) (qz (p := p) (L := L) (T := (T)) (by omega) M) ?_
 rintro _ w4 ⟨rfl, hM3⟩
 replace M : Mg w0 w4 (.obj g (rC L p lg) :: T) := hM3
 refine ⟨_, rfl, ?_⟩
 intro a A
 refine gcl A M (ef rfl rfl) (dc_any (l := L.drop p) (hT.below M.bel)) fun w6 hb5 M a A => ?_
 refine sdm A λa A↦?_
 iterate 2 refine sdo A (qp (vs := [.int .i32 ((((dcX (L.drop p)).1 : Nat) : Int)), iV ((((dcX (L.drop p)).2 : Nat) : Int))]) rfl rfl) λa A↦?_
 iterate 2 refine sda A λa A↦?_
 refine qa (hK2 _ _ (wsk fun K7 hK7 => wrl (sdm A λa A↦?_)))
 refine sdo (v := bV false) A (qb rfl rfl (fun w => (qx w).trans (by rw [show (decide (0 < (((dcX (L.drop p)).2 : Nat) : Int))) = false from (decide_eq_false (by omega))]))) λa A↦?_
 refine zq A rfl rfl rfl (ef rfl rfl) (zw) ?_
 rintro _ w9 ⟨rfl, hp10⟩
 exact .inl ⟨_, rfl, hX _ _ _ _ _ A (⟨rfl, M.call hp10⟩)⟩
end Go.Proofs.YtclkfideaameoaaGreatDoor.G
true) A λa A↦?_
     refine sda A λa A↦?_
     refine qa (hK2 _ _ (wr1 hret A ?_))
     exact ⟨by unfold isHx; rw [hb3, hb4, hb5, hb6]; rfl, M.bel⟩
    ·
     have hb6' := of_decide_eq_false hb6
     refine sdc A qn hb6 λa A↦?_
     iterate 2 refine sdk (v := bV false) A λa A↦?_
     iterate 2 refine sdm A λa A↦?_
     rcases tf (decide (65 ≤ ((b.toNat : Nat) : Int))) with hb7 | hb7
     ·
      have hb7' := of_decide_eq_true hb7
      refine sdc A ql hb7 λa A↦?_
      iterate 2 refine sdm A λa A↦?_
      rcases tf (decide (((b.toNat : Nat) : Int) ≤ 70)) with hb8 | hb8
      ·
       have hb8' := of_decide_eq_true hb8
       refine sdc A qn hb8 λa A↦?_
       iterate 2 refine sdk (v := bV true) A λa A↦?_
       refine sda A λa A↦?_
       refine qa (hK2 _ _ (wr1 hret A ?_))
       exact ⟨by unfold isHx; rw [hb3, hb4, hb5, hb6, hb7, hb8]; rfl, M.bel⟩
      ·
       have hb8' := of_decide_eq_false hb8
       refine sdc A qn hb8 λa A↦?_
       iterate 2 refine sdk (v := bV false) A λa A↦?_
       refine sda A λa A↦?_
       refine qa (hK2 _ _ (wr1 hret A ?_))
       exact ⟨by unfold isHx; rw [hb3, hb4, hb5, hb6, hb7, hb8]; rfl, M.bel⟩
     ·
      have hb7' := of_decide_eq_false hb7
      refine sdc A ql hb7 λa A↦?_
      refine sdm A λa A↦?_
      iterate 2 refine qg A rfl rfl rfl λa A↦?_
      iterate 2 refine sdk (v := bV false) A λa A↦?_
      refine sda A λa A↦?_
      refine qa (hK2 _ _ (wr1 hret A ?_))
      exact ⟨by unfold isHx; rw [hb3, hb4, hb5, hb6, hb7]; rfl, M.bel⟩
   ·
    have hb5' := of_decide_eq_false hb5
    refine sdc A ql hb5 λa A↦?_
    refine sdm A λa A↦?_
    iterate 2 refine qg A rfl rfl rfl λa A↦?_
    iterate 2 refine sdk (v := bV false) A λa A↦?_
    iterate 2 refine sdm A λa A↦?_
    rcases tf (decide (65 ≤ ((b.toNat : Nat) : Int))) with hb9 | hb9
    ·
     have hb9' := of_decide_eq_true hb9
     refine sdc A ql hb9 λa A↦?_
     iterate 2 refine sdm A λa A↦?_
     rcases tf (decide (((b.toNat : Nat) : Int) ≤ 70)) with hb10 | hb10
     ·
      have hb10' := of_decide_eq_true hb10
      refine sdc A qn hb10 λa A↦?_
      iterate 2 refine sdk (v := bV true) A λa A↦?_
      refine sda A λa A↦?_
      refine qa (hK2 _ _ (wr1 hret A ?_))
      exact ⟨by unfold isHx; rw [hb3, hb4, hb5, hb9, hb10]; rfl, M.bel⟩
     ·
      have hb10' := of_decide_eq_false hb10
      refine sdc A qn hb10 λa A↦?_
      iterate 2 refine sdk (v := bV false) A λa A↦?_
      refine sda A λa A↦?_
      refine qa (hK2 _ _ (wr1 hret A ?_))
      exact ⟨by unfold isHx; rw [hb3, hb4, hb5, hb9, hb10]; rfl, M.bel⟩
    ·
     have hb9' := of_decide_eq_false hb9
     refine sdc A ql hb9 λa A↦?_
     refine sdm A λa A↦?_
     iterate 2 refine qg A rfl rfl rfl λa A↦?_
     iterate 2 refine sdk (v := bV false) A λa A↦?_
     refine sda A λa A↦?_
     refine qa (hK2 _ _ (wr1 hret A ?_))
     exact ⟨by unfold isHx; rw [hb3, hb4, hb5, hb9]; rfl, M.bel⟩
 ·
  have hb3' := of_decide_eq_false hb3
  refine sdc A ql hb3 λa A↦?_
  refine sdm A λa A↦?_
  iterate 2 refine qg A rfl rfl rfl λa A↦?_
  refine sdk (v := bV false) A λa A↦?_
  iterate 2 refine sdm A λa A↦?_
  rcases tf (decide (97 ≤ ((b.toNat : Nat) : Int))) with hb11 | hb11
  ·
   have hb11' := of_decide_eq_true hb11
   refine sdc A ql hb11 λa A↦?_
   iterate 2 refine sdm A λa A↦?_
   rcases tf (decide (((b.toNat : Nat) : Int) ≤ 102)) with hb12 | hb12
   ·
    have hb12' := of_decide_eq_true hb12
    refine sdc A qn hb12 λa A↦?_
    iterate 2 refine sdk (v := bV true) A λa A↦?_
    refine sdm A λa A↦?_
    iterate 3 refine qg A rfl rfl rfl λa A↦?_
    iterate 2 refine jq A rfl rfl rfl λa A↦?_
    refine qg A rfl rfl rfl λa A↦?_
    refine sdk (v := bV true) A λa A↦?_
    refine sda A λa A↦?_
    refine qa (hK2 _ _ (wr1 hret A ?_))
    exact ⟨by unfold isHx; rw [hb3, hb11, hb12]; rfl, M.bel⟩
   ·
    have hb12' := of_decide_eq_false hb12
    refine sdc A qn hb12 λa A↦?_
    iterate 2 refine sdk (v := bV false) A λa A↦?_
    iterate 2 refine sdm A λa A↦?_
    rcases tf (decide (65 ≤ ((b.toNat : Nat) : Int))) with hb13 | hb13
    ·
     have hb13' := of_decide_eq_true hb13
     refine sdc A ql hb13 λa A↦?_
     iterate 2 refine sdm A λa A↦?_
     rcases tf (decide (((b.toNat : Nat) : Int) ≤ 70)) with hb14 | hb14
     ·
      have hb14' := of_decide_eq_true hb14
      refine sdc A qn hb14 λa A↦?_
      iterate 2 refine sdk (v := bV true) A λa A↦?_
      refine sda A λa A↦?_
      refine qa (hK2 _ _ (wr1 hret A ?_))
      exact ⟨by unfold isHx; rw [hb3, hb11, hb12, hb13, hb14]; rfl, M.bel⟩
     ·
      have hb14' := of_decide_eq_false hb14
      refine sdc A qn hb14 λa A↦?_
      iterate 2 refine sdk (v := bV false) A λa A↦?_
      refine sda A λa A↦?_
      refine qa (hK2 _ _ (wr1 hret A ?_))
      exact ⟨by unfold isHx; rw [hb3, hb11, hb12, hb13, hb14]; rfl, M.bel⟩
    ·
     have hb13' := of_decide_eq_false hb13
     refine sdc A ql hb13 λa A↦?_
     refine sdm A λa A↦?_
     iterate 2 refine qg A rfl rfl rfl λa A↦?_
     iterate 2 refine sdk (v := bV false) A λa A↦?_
     refine sda A λa A↦?_
     refine qa (hK2 _ _ (wr1 hret A ?_))
     exact ⟨by unfold isHx; rw [hb3, hb11, hb12, hb13]; rfl, M.bel⟩
  ·
   have hb11' := of_decide_eq_false hb11
   refine sdc A ql hb11 λa A↦?_
   refine sdm A λa A↦?_
   iterate 2 refine qg A rfl rfl rfl λa A↦?_
   iterate 2 refine sdk (v := bV false) A λa A↦?_
   iterate 2 refine sdm A λa A↦?_
   rcases tf (decide (65 ≤ ((b.toNat : Nat) : Int))) with hb15 | hb15
   ·
    have hb15' := of_decide_eq_true hb15
    refine sdc A ql hb15 λa A↦?_
    iterate 2 refine sdm A λa A↦?_
    rcases tf (decide (((b.toNat : Nat) : Int) ≤ 70)) with hb16 | hb16
    ·
     have hb16' := of_decide_eq_true hb16
     refine sdc A qn hb16 λa A↦?_
     iterate 2 refine sdk (v := bV true) A λa A↦?_
     refine sda A λa A↦?_
     refine qa (hK2 _ _ (wr1 hret A ?_))
     exact ⟨by unfold isHx; rw [hb3, hb11, hb15, hb16]; rfl, M.bel⟩
    ·
     have hb16' := of_decide_eq_false hb16
     refine sdc A qn hb16 λa A↦?_
     iterate 2 refine sdk (v := bV false) A λa A↦?_
     refine sda A λa A↦?_
     refine qa (hK2 _ _ (wr1 hret A ?_))
     exact ⟨by unfold isHx; rw [hb3, hb11, hb15, hb16]; rfl, M.bel⟩
   ·
    have hb15' := of_decide_eq_false hb15
    refine sdc A ql hb15 λa A↦?_
    refine sdm A λa A↦?_
    iterate 2 refine qg A rfl rfl rfl λa A↦?_
    iterate 2 refine sdk (v := bV false) A λa A↦?_
    refine sda A λa A↦?_
    refine qa (hK2 _ _ (wr1 hret A ?_))
    exact ⟨by unfold isHx; rw [hb3, hb11, hb15]; rfl, M.bel⟩
theorem jb {w : World} {b : UInt8} {c : Bool} (h : isHx b = c) : Calls Tryz.prog 116 #[.int .u8 ((b.toNat : Nat) : Int)] w fun e w' => e = .returned (bV c) ∧ Below w.heap.size w w' := h ▸ hex_any
theorem jc {w : World} {l : List UInt8} (hT : Tb w) (hl : l.length ≤ 1000000000) : Calls Tryz.prog 86 #[.string (tx l)] w fun e w' => e = .returned (iV ((tiedN l : Nat) : Int)) ∧ Below w.heap.size w w' := by
 have M : Mg w w ([]) := Mg.start w
 refine qr (l := [(0, .string ((tx l)))]) Tryz.func86 rfl Tryz.ntmps86 rfl rfl ?_
 intro Q hret hnorm hP a A
 refine wsk fun K1 hK1 => wrl (sda A λa A↦?_)
 refine qa (hK1 _ _ (wsk fun K2 hK2 => wrl (sdm A λa A↦?_)))
 refine sct A (ef rfl rfl) (dc_any (l := l) (hT.below M.bel)) ?_
 rintro _ w4 ⟨rfl, hb3⟩
 obtain ⟨q, hq⟩ : ∃ q, (dcX l).2 = q := ⟨_, rfl⟩
 have hql := dcX_le l
 rw [hq] at hql ⊢
 replace M := M.call hb3
 refine ⟨_, rfl, ?_⟩
 intro a A
 refine sdm A λa A↦?_
 iterate 2 refine sdo A (qp (vs := [.int .i32 ((((dcX l).1 : Nat) : Int)), iV (((q : Nat) : Int))]) rfl rfl) λa A↦?_
 iterate 2 refine sda A λa A↦?_
 refine qa (hK2 _ _ (wsk fun K5 hK5 => wrl (sda A λa A↦?_)))
 refine qa (hK5 _ _ (wsk fun K6 hK6 => wp_block (zl (fun m_ a w1 => ∃ (j : Nat), m_ = 1 + (l.length - (q + j)) ∧ (q + j ≤ l.length ∧ hxN (l.drop q) = j + hxN (l.drop (q + j))) ∧ Sl a 41 [(0, .string ((tx l))), (2, iV 0), (3, .int .i32 ((((dcX l).1 : Nat) : Int))), (4, iV (((q : Nat) : Int))), (5, iV (((j : Nat) : Int))), (6, .tuple #[.int .i32 ((((dcX l).1 : Nat) : Int)), iV (((q : Nat) : Int))]), (7, .string ((tx l))), (8, .tuple #[.int .i32 ((((dcX l).1 : Nat) : Int)), iV (((q : Nat) : Int))]), (9, .int .i32 ((((dcX l).1 : Nat) : Int))), (10, iV (((q : Nat) : Int)))] ∧ Mg w w1 ([])) _ ⟨0, rfl, ⟨by omega, by rw [Nat.zero_add, Nat.add_zero]⟩, A.keep _ (by repeat' constructor), M⟩ ?_)))
 clear M A
 rintro m_ a w7 ⟨j, rfl, hinv9, A, M⟩ K8 hK8
 obtain ⟨hj0, hj⟩ := hinv9
 refine wsk fun K10 hK10 => wsk fun K11 hK11 => wrl ?_
 iterate 2 refine sdm A λa A↦?_
 refine sdo (v := iV (((q + j : Nat) : Int))) A (qb rfl rfl (ar_add ((in_i64 (by omega) (by omega)).trans (by omega)))) λa A↦?_
 refine sdm A λa A↦?_
 refine sdo (v := iV (((l.length : Nat) : Int))) A (zg (s := l) Tryz.underlying9 rfl) λa A↦?_
 rcases tf (decide (((q + j : Nat) : Int) < ((l.length : Nat) : Int))) with hb12 | hb12
 ·
  have hb12' := of_decide_eq_true hb12
  refine sdc A qw hb12 λa A↦?_
  iterate 4 refine sdm A λa A↦?_
  refine sdo (v := iV (((q + j : Nat) : Int))) A (qb rfl rfl (ar_add ((in_i64 (by omega) (by omega)).trans (by omega)))) λa A↦?_
  obtain ⟨b13, hb14⟩ : ∃ b, l[q + j]? = some b := ⟨_, List.getElem?_eq_getElem (show q + j < l.length by omega)⟩
  refine sdo (v := .int .u8 (((b13.toNat : Nat) : Int))) A (zb (s := l) (i := q + j) Tryz.underlying9 rfl rfl rfl hb14) λa A↦?_
  rcases tf (isHx b13) with hb15 | hb15
  ·
   refine gcl A M (ef rfl rfl) ((jb hb15)) fun w17 hb16 M a A => ?_
   refine sdk (v := bV true) A λa A↦?_
   refine qa (hK11 _ _ (ct A ?_))
   refine wp_skip (hK10 _ _ (wp_block (wrl (sdm A λa A↦?_))))
   refine sdo (v := iV (((j + 1 : Nat) : Int))) A (qb rfl rfl (ar_add ((in_i64 (by omega) (by omega)).trans (by omega)))) λa A↦?_
   refine sda A λa A↦?_
   refine qa ?_
   refine hK8 _ _ _ (by omega) ⟨j + 1, rfl, ⟨by omega, by rw [hj, hxN_hit hb14 hb15, Nat.add_assoc]; omega⟩, A.keep _ (by repeat' constructor), M⟩
  ·
   refine gcl A M (ef rfl rfl) ((jb hb15)) fun w19 hb18 M a A => ?_
   refine sdk (v := bV false) A λa A↦?_
   refine qa (hK11 _ _ (cf A ?_))
   refine wp_exit (hK6 _ _ (wsk fun K20 hK20 => wrl ?_))
   iterate 2 refine sdm A λa A↦?_
   refine sdo (v := iV (((q + j : Nat) : Int))) A (qb rfl rfl (ar_add ((in_i64 (by omega) (by omega)).trans (by omega)))) λa A↦?_
   refine sda A λa A↦?_
   refine qa (hK20 _ _ (wsk fun K21 hK21 => wsk fun K22 hK22 => wrl (sdm A λa A↦?_)))
   rcases tf (decide (0 < ((j : Nat) : Int))) with hb23 | hb23
   ·
    have hb23' := of_decide_eq_true hb23
    refine sdc A qx hb23 λa A↦?_
    iterate 3 refine sdm A λa A↦?_
    refine sdo (v := .string ((tx (l.drop (q + j))))) A (qs (s := l) (p := q + j) Tryz.underlying9 rfl rfl rfl (by omega)) λa A↦?_
    rcases tf (Lib.hasPrefix (l.drop (q + j)) [59]) with hb24 | hb24
    ·
     refine gcl A M (ef rfl rfl) ((hp_as hb24)) fun w26 hb25 M a A => ?_
     refine sdk (v := bV true) A λa A↦?_
     refine qa (hK22 _ _ (ct A ?_))
     refine wrl (sdm A λa A↦?_)
     refine sdo (v := iV (((q + j + 1 : Nat) : Int))) A (qb rfl rfl (ar_add ((in_i64 (by omega) (by omega)).trans (by omega)))) λa A↦?_
     refine sda A λa A↦?_
     refine qa (hK21 _ _ (wsk fun K27 hK27 => wrl (sdm A λa A↦?_)))
     refine sda A λa A↦?_
     refine qa (hK27 _ _ (wr1 hret A ?_))
     have hz : hxN (l.drop (q + j)) = 0 := by first | exact hxN_not (by assumption) (by assumption) | exact hxN_end (by omega)
     have hjj : hxN (l.drop q) = j := by omega
     exact ⟨by unfold tiedN; rw [hq, hjj, hb24, if_pos (by rw [decide_eq_true (by omega)]; rfl)], M.bel⟩
    ·
     refine gcl A M (ef rfl rfl) ((hp_as hb24)) fun w29 hb28 M a A => ?_
     refine sdk (v := bV false) A λa A↦?_
     refine qa (hK22 _ _ (cf A ?_))
     refine wp_skip (hK21 _ _ (wsk fun K30 hK30 => wrl (sdm A λa A↦?_)))
     refine sda A λa A↦?_
     refine qa (hK30 _ _ (wr1 hret A ?_))
     have hz : hxN (l.drop (q + j)) = 0 := by first | exact hxN_not (by assumption) (by assumption) | exact hxN_end (by omega)
     have hjj : hxN (l.drop q) = j := by omega
     exact ⟨by unfold tiedN; rw [hq, hjj, hb24, if_neg (by rw [Bool.and_false]; decide)]; rfl, M.bel⟩
   ·
    have hb23' := of_decide_eq_false hb23
    refine sdc A qx hb23 λa A↦?_
    refine sdm A λa A↦?_
    iterate 4 refine qg A rfl rfl rfl λa A↦?_
    refine sdk (v := bV false) A λa A↦?_
    refine qa (hK22 _ _ (cf A ?_))
    refine wp_skip (hK21 _ _ (wsk fun K31 hK31 => wrl (sdm A λa A↦?_)))
    refine sda A λa A↦?_
    refine qa (hK31 _ _ (wr1 hret A ?_))
    have hz : hxN (l.drop (q + j)) = 0 := by first | exact hxN_not (by assumption) (by assumption) | exact hxN_end (by omega)
    have hjj : hxN (l.drop q) = j := by omega
    exact ⟨by unfold tiedN; rw [hq, hjj, if_neg (by rw [decide_eq_false (by omega), Bool.false_and]; decide)]; rfl, M.bel⟩
 ·
  have hb12' := of_decide_eq_false hb12
  refine sdc A qw hb12 λa A↦?_
  refine sdm A λa A↦?_
  iterate 6 refine qg A rfl rfl rfl λa A↦?_
  refine sdk (v := bV false) A λa A↦?_
  refine qa (hK11 _ _ (cf A ?_))
  refine wp_exit (hK6 _ _ (wsk fun K32 hK32 => wrl ?_))
  iterate 2 refine sdm A λa A↦?_
  refine sdo (v := iV (((q + j : Nat) : Int))) A (qb rfl rfl (ar_add ((in_i64 (by omega) (by omega)).trans (by omega)))) λa A↦?_
  refine sda A λa A↦?_
  refine qa (hK32 _ _ (wsk fun K33 hK33 => wsk fun K34 hK34 => wrl (sdm A λa A↦?_)))
  rcases tf (decide (0 < ((j : Nat) : Int))) with hb35 | hb35
  ·
   have hb35' := of_decide_eq_true hb35
   refine sdc A qx hb35 λa A↦?_
   iterate 3 refine sdm A λa A↦?_
   refine sdo (v := .string ((tx (l.drop (q + j))))) A (qs (s := l) (p := q + j) Tryz.underlying9 rfl rfl rfl (by omega)) λa A↦?_
   rcases tf (Lib.hasPrefix (l.drop (q + j)) [59]) with hb36 | hb36
   ·
    refine gcl A M (ef rfl rfl) ((hp_as hb36)) fun w38 hb37 M a A => ?_
    refine sdk (v := bV true) A λa A↦?_
    refine qa (hK34 _ _ (ct A ?_))
    refine wrl (sdm A λa A↦?_)
    refine sdo (v := iV (((q + j + 1 : Nat) : Int))) A (qb rfl rfl (ar_add ((in_i64 (by omega) (by omega)).trans (by omega)))) λa A↦?_
    refine sda A λa A↦?_
    refine qa (hK33 _ _ (wsk fun K39 hK39 => wrl (sdm A λa A↦?_)))
    refine sda A λa A↦?_
    refine qa (hK39 _ _ (wr1 hret A ?_))
    have hz : hxN (l.drop (q + j)) = 0 := by first | exact hxN_not (by assumption) (by assumption) | exact hxN_end (by omega)
    have hjj : hxN (l.drop q) = j := by omega
    exact ⟨by unfold tiedN; rw [hq, hjj, hb36, if_pos (by rw [decide_eq_true (by omega)]; rfl)], M.bel⟩
   ·
    refine gcl A M (ef rfl rfl) ((hp_as hb36)) fun w41 hb40 M a A => ?_
    refine sdk (v := bV false) A λa A↦?_
    refine qa (hK34 _ _ (cf A ?_))
    refine wp_skip (hK33 _ _ (wsk fun K42 hK42 => wrl (sdm A λa A↦?_)))
    refine sda A λa A↦?_
    refine qa (hK42 _ _ (wr1 hret A ?_))
    have hz : hxN (l.drop (q + j)) = 0 := by first | exact hxN_not (by assumption) (by assumption) | exact hxN_end (by omega)
    have hjj : hxN (l.drop q) = j := by omega
    exact ⟨by unfold tiedN; rw [hq, hjj, hb36, if_neg (by rw [Bool.and_false]; decide)]; rfl, M.bel⟩
  ·
   have hb35' := of_decide_eq_false hb35
   refine sdc A qx hb35 λa A↦?_
   refine sdm A λa A↦?_
   iterate 4 refine qg A rfl rfl rfl λa A↦?_
   refine sdk (v := bV false) A λa A↦?_
   refine qa (hK34 _ _ (cf A ?_))
   refine wp_skip (hK33 _ _ (wsk fun K43 hK43 => wrl (sdm A λa A↦?_)))
   refine sda A λa A↦?_
   refine qa (hK43 _ _ (wr1 hret A ?_))
   have hz : hxN (l.drop (q + j)) = 0 := by first | exact hxN_not (by assumption) (by assumption) | exact hxN_end (by omega)
   have hjj : hxN (l.drop q) = j := by omega
   exact ⟨by unfold tiedN; rw [hq, hjj, if_neg (by rw [decide_eq_false (by omega), Bool.false_and]; decide)]; rfl, M.bel⟩
end Go.Proofs.YtclkfideaameoaaGreatDoor.G
namespace Go.Proofs.YtclkfideaameoaaGreatDoor.C
open Go.RowKit

def kj (r : Int) : Bool := decide ((r ≠ 304 ∧ r ≠ 305 ∧ 256 ≤ r ∧ r ≤ 311) ∨ (330 ≤ r ∧ r ≤ 375))
def yl (r : Int) : Bool := decide ((313 ≤ r ∧ r ≤ 328) ∨ (377 ≤ r ∧ r ≤ 382))
def kt (r : Int) : Int :=
  if 97 ≤ r ∧ r ≤ 122 then 32
  else if 224 ≤ r ∧ r ≤ 254 ∧ r ≠ 247 then 32
  else if kj r = true ∧ r % 2 = 1 then 1
  else if yl r = true ∧ r % 2 = 0 then 1
  else if 945 ≤ r ∧ r ≤ 969 ∧ r ≠ 962 then 32
  else if 1072 ≤ r ∧ r ≤ 1103 then 32
  else if 1104 ≤ r ∧ r ≤ 1119 then 80
  else 0

def ud (r : Int) : Int :=
  if kt (wrap32 (r + 1)) = 1 then 1 else if kt (wrap32 (r + 32)) = 32 then 32 else if kt (wrap32 (r + 80)) = 80 then 80 else 0
def ue (r : Int) : Bool := decide (r = 170 ∨ r = 181 ∨ r = 186 ∨ r = 223 ∨ r = 255 ∨ r = 304 ∨ r = 305 ∨ r = 312 ∨ r = 329 ∨ r = 376 ∨ r = 383 ∨ r = 962)
def ye (r : Int) : Bool := decide (kt r ≠ 0 ∨ ud r ≠ 0) || ue r
def yf (r : Int) : Bool := decide (r = 9 ∨ r = 10 ∨ r = 11 ∨ r = 12 ∨ r = 13 ∨ r = 32 ∨ r = 133 ∨ r = 160 ∨ r = 8232 ∨ r = 8233)

theorem vp (r : Int) : (kj r = true) = ((r ≠ 304 ∧ r ≠ 305 ∧ 256 ≤ r ∧ r ≤ 311) ∨ (330 ≤ r ∧ r ≤ 375)) := by simp [kj]
theorem yg (r : Int) : (kj r = false) = ¬ ((r ≠ 304 ∧ r ≠ 305 ∧ 256 ≤ r ∧ r ≤ 311) ∨ (330 ≤ r ∧ r ≤ 375)) := by rw [← vp]; simp
theorem kf (r : Int) : (yl r = true) = ((313 ≤ r ∧ r ≤ 328) ∨ (377 ≤ r ∧ r ≤ 382)) := by simp [yl]
theorem uf (r : Int) : (yl r = false) = ¬ ((313 ≤ r ∧ r ≤ 328) ∨ (377 ≤ r ∧ r ≤ 382)) := by rw [← kf]; simp

theorem ug (r : Int) :
    (kt r = 32 ∧ ((97 ≤ r ∧ r ≤ 122) ∨ (224 ≤ r ∧ r ≤ 254 ∧ r ≠ 247) ∨ (945 ≤ r ∧ r ≤ 969 ∧ r ≠ 962) ∨ (1072 ≤ r ∧ r ≤ 1103)))
    ∨ (kt r = 1 ∧ ((((r ≠ 304 ∧ r ≠ 305 ∧ 256 ≤ r ∧ r ≤ 311) ∨ (330 ≤ r ∧ r ≤ 375)) ∧ r % 2 = 1) ∨ (((313 ≤ r ∧ r ≤ 328) ∨ (377 ≤ r ∧ r ≤ 382)) ∧ r % 2 = 0)))
    ∨ (kt r = 80 ∧ 1104 ≤ r ∧ r ≤ 1119)
    ∨ (kt r = 0 ∧ ¬ (97 ≤ r ∧ r ≤ 122) ∧ ¬ (224 ≤ r ∧ r ≤ 254 ∧ r ≠ 247) ∧ ¬ (945 ≤ r ∧ r ≤ 969 ∧ r ≠ 962) ∧ ¬ (1072 ≤ r ∧ r ≤ 1119)
        ∧ ¬ (((r ≠ 304 ∧ r ≠ 305 ∧ 256 ≤ r ∧ r ≤ 311) ∨ (330 ≤ r ∧ r ≤ 375)) ∧ r % 2 = 1) ∧ ¬ (((313 ≤ r ∧ r ≤ 328) ∨ (377 ≤ r ∧ r ≤ 382)) ∧ r % 2 = 0)) := by
  unfold kt
  simp only [vp, kf]
  split
  · omega
  · split
    · omega
    · split
      · omega
      · split
        · omega
        · split
          · omega
          · split
            · omega
            · split <;> omega
theorem km {k : IntKind} {a b : Int} (h : a = b) : Ending.returned (.int k a) = .returned (.int k b) := by rw [h]
theorem xy {a b : Bool} (h : a = b) : Ending.returned (.bool a) = .returned (.bool b) := by rw [h]
theorem kr (r : Int) (w : World) :
    Calls Tryz.prog 169 #[.int .i32 r] w fun e w' => e = .returned (.bool (kj r)) ∧ w' = w := by
  go_enter Tryz.func169, Tryz.ntmps169
  go_wp2
  all_goals go_ret
  all_goals refine ⟨xy ?_, rfl⟩
  all_goals (unfold kj; rw [Bool.eq_iff_iff]; simp at *; omega)
theorem yh (r : Int) (w : World) :
    Calls Tryz.prog 170 #[.int .i32 r] w fun e w' => e = .returned (.bool (yl r)) ∧ w' = w := by
  go_enter Tryz.func170, Tryz.ntmps170
  go_wp2
  all_goals go_ret
  all_goals refine ⟨xy ?_, rfl⟩
  all_goals (unfold yl; rw [Bool.eq_iff_iff]; simp at *; try omega)
theorem ux (r : Int) (w : World) :
    Calls Tryz.prog 146 #[.int .i32 r] w fun e w' => e = .returned (.bool (ue r)) ∧ w' = w := by
  go_enter Tryz.func146, Tryz.ntmps146
  go_wp2
  all_goals go_ret
  all_goals refine ⟨xy ?_, rfl⟩
  all_goals (unfold ue; rw [Bool.eq_iff_iff]; simp at *; try omega)
theorem kv (r : Int) (w : World) :
    Calls Tryz.prog 30 #[.int .i32 r] w fun e w' => e = .returned (.bool (yf r)) ∧ w' = w := by
  go_enter Tryz.func30, Tryz.ntmps30
  go_wp2
  all_goals go_ret
  all_goals refine ⟨xy ?_, rfl⟩
  all_goals (unfold yf; rw [Bool.eq_iff_iff]; simp at *; try omega)
theorem ut (r : Int) (w : World) :
    Calls Tryz.prog 144 #[.int .i32 r] w fun e w' => e = .returned (.int .i32 (kt r)) ∧ w' = w := by
  have HC : Hid _ := ug r
  have h0 : kj r = true → 0 ≤ r := by rw [vp]; omega
  have h1 : yl r = true → 0 ≤ r := by rw [kf]; omega
  by_cases he : kj r = true
  · have hr := h0 he
    clear h0 h1
    go_enter Tryz.func144, Tryz.ntmps144
    go_wp2_with (first | (go_at_call 169; refine (kr _ _).mono ?_; rintro e w' ⟨rfl, rfl⟩) | (go_at_call 170; refine (yh _ _).mono ?_; rintro e w' ⟨rfl, rfl⟩))
    all_goals go_ret
    all_goals refine ⟨km ?_, rfl⟩
    all_goals (have hc := HC.out; go_light; simp only [vp, kf, yg, uf, Bool.not_eq_true, beq_iff_eq, bne_iff_ne, beq_eq_false_iff_ne, bne_eq_false_iff_eq, ne_eq] at *; omega)
  · by_cases ho : yl r = true
    · have hr := h1 ho
      clear h0 h1
      go_enter Tryz.func144, Tryz.ntmps144
      go_wp2_with (first | (go_at_call 169; refine (kr _ _).mono ?_; rintro e w' ⟨rfl, rfl⟩) | (go_at_call 170; refine (yh _ _).mono ?_; rintro e w' ⟨rfl, rfl⟩))
      all_goals go_ret
      all_goals refine ⟨km ?_, rfl⟩
      all_goals (have hc := HC.out; go_light; simp only [vp, kf, yg, uf, Bool.not_eq_true, beq_iff_eq, bne_iff_ne, beq_eq_false_iff_ne, bne_eq_false_iff_eq, ne_eq] at *; omega)
    · clear h0 h1
      go_enter Tryz.func144, Tryz.ntmps144
      go_wp2_with (first | (go_at_call 169; refine (kr _ _).mono ?_; rintro e w' ⟨rfl, rfl⟩) | (go_at_call 170; refine (yh _ _).mono ?_; rintro e w' ⟨rfl, rfl⟩))
      all_goals go_ret
      all_goals refine ⟨km ?_, rfl⟩
      all_goals (have hc := HC.out; go_light; simp only [vp, kf, yg, uf, Bool.not_eq_true, beq_iff_eq, bne_iff_ne, beq_eq_false_iff_ne, bne_eq_false_iff_eq, ne_eq] at *; omega)
theorem uh (r : Int) (w : World) :
    Calls Tryz.prog 145 #[.int .i32 r] w fun e w' => e = .returned (.int .i32 (ud r)) ∧ w' = w := by
  go_enter Tryz.func145, Tryz.ntmps145
  go_wp2_with (go_at_call 144; refine (ut _ _).mono ?_; rintro e w' ⟨rfl, rfl⟩)
  all_goals go_ret
  all_goals refine ⟨km ?_, rfl⟩
  all_goals (unfold ud; simp at *; simp [*])
theorem ui (r : Int) (w : World) :
    Calls Tryz.prog 124 #[.int .i32 r] w fun e w' => e = .returned (.bool (ye r)) ∧ w' = w := by
  go_enter Tryz.func124, Tryz.ntmps124
  go_wp2_with (first | (go_at_call 144; refine (ut _ _).mono ?_; rintro e w' ⟨rfl, rfl⟩) | (go_at_call 145; refine (uh _ _).mono ?_; rintro e w' ⟨rfl, rfl⟩) | (go_at_call 146; refine (ux _ _).mono ?_; rintro e w' ⟨rfl, rfl⟩))
  all_goals go_ret
  all_goals refine ⟨xy ?_, rfl⟩
  all_goals (unfold ye; simp at *; first | omega | simp [*])
end Go.Proofs.YtclkfideaameoaaGreatDoor.C
namespace Go.Proofs
open Go.Shelf
def Tryz.lays151_ren : Go.Shelf.Ren := ⟨fun | 151 => 115 | 152 => 71 | 137 => 105 | 119 => 67 | 224 => 106 | 225 => 107 | 217 => 133 | 266 => 152 | n => n, fun | 9 => 9 | 21 => 21 | 4 => 4 | 3 => 3 | 5 => 5 | 0 => 0 | 46 => 71 | n => n, fun | n => n⟩
theorem Tryz.lays151 : Go.Proofs.Lays.n151 Tryz.prog Tryz.lays151_ren := {
  mixed := by kernel_rfl
  f119 := Tryz.func67.trans (congrArg some (by kernel_rfl))
  f137 := Tryz.func105.trans (congrArg some (by kernel_rfl))
  f151 := Tryz.func115.trans (congrArg some (by kernel_rfl))
  f152 := Tryz.func71.trans (congrArg some (by kernel_rfl))
  f217 := Tryz.func133.trans (congrArg some (by kernel_rfl))
  f224 := Tryz.func106.trans (congrArg some (by kernel_rfl))
  f225 := Tryz.func107.trans (congrArg some (by kernel_rfl))
  f266 := Tryz.func152.trans (congrArg some (by kernel_rfl))
  t0 := Tryz.underlying0
  a0 := Tryz.isAgg0
  z0 := Tryz.sizeOf0
  v0 := Tryz.zeroValue0
  t3 := Tryz.underlying3
  a3 := Tryz.isAgg3
  z3 := Tryz.sizeOf3
  v3 := Tryz.zeroValue3
  t4 := Tryz.underlying4
  a4 := Tryz.isAgg4
  z4 := Tryz.sizeOf4
  v4 := Tryz.zeroValue4
  t5 := Tryz.underlying5
  a5 := Tryz.isAgg5
  z5 := Tryz.sizeOf5
  v5 := Tryz.zeroValue5
  t9 := Tryz.underlying9
  a9 := Tryz.isAgg9
  z9 := Tryz.sizeOf9
  v9 := Tryz.zeroValue9
  t21 := Tryz.underlying21
  a21 := Tryz.isAgg21
  z21 := Tryz.sizeOf21
  v21 := Tryz.zeroValue21
  t46 := Tryz.underlying71
  a46 := Tryz.isAgg71
  z46 := Tryz.sizeOf71
  v46 := Tryz.zeroValue71 }
open Go.RowKit Go.Lib in
theorem Tryz.strings_ContainsRune_ascii (s : ByteArray) (r : Int) (w : World) (h0 : 0 ≤ r) (h1 : r < 128) :
    Calls Tryz.prog 115 #[.string s, .int .i32 r] w fun e w' => e = .returned (.bool (decide (0 ≤ Lib.indexByte s.data.toList r.toNat.toUInt8))) ∧ w' = w := Any.strings_ContainsRune_ascii Tryz.lays151 s r w h0 h1
def Tryz.laysAppend_ren : Go.Shelf.Ren := ⟨fun | 242 => 84 | 278 => 114 | n => n, fun | 37 => 27 | 21 => 21 | 51 => 99 | 4 => 4 | 5 => 5 | 46 => 71 | n => n, fun | n => n⟩
theorem Tryz.laysAppend : Go.Proofs.Lays.n242 Tryz.prog Tryz.laysAppend_ren := {
  mixed := by kernel_rfl
  f242 := Tryz.func84.trans (congrArg some (by kernel_rfl))
  f278 := Tryz.func114.trans (congrArg some (by kernel_rfl))
  t4 := Tryz.underlying4
  a4 := Tryz.isAgg4
  z4 := Tryz.sizeOf4
  v4 := Tryz.zeroValue4
  t5 := Tryz.underlying5
  a5 := Tryz.isAgg5
  z5 := Tryz.sizeOf5
  v5 := Tryz.zeroValue5
  t21 := Tryz.underlying21
  a21 := Tryz.isAgg21
  z21 := Tryz.sizeOf21
  v21 := Tryz.zeroValue21
  t37 := Tryz.underlying27
  a37 := Tryz.isAgg27
  z37 := Tryz.sizeOf27
  v37 := Tryz.zeroValue27
  t46 := Tryz.underlying71
  a46 := Tryz.isAgg71
  z46 := Tryz.sizeOf71
  v46 := Tryz.zeroValue71
  t51 := Tryz.underlying99
  a51 := Tryz.isAgg99
  z51 := Tryz.sizeOf99
  v51 := Tryz.zeroValue99 }
def Tryz.lays119_ren : Go.Shelf.Ren := ⟨fun | 119 => 67 | n => n, fun | 21 => 21 | 4 => 4 | n => n, fun | n => n⟩
theorem Tryz.lays119 : Go.Proofs.Lays.n119 Tryz.prog Tryz.lays119_ren := {
  mixed := by kernel_rfl
  f119 := Tryz.func67.trans (congrArg some (by kernel_rfl))
  t4 := Tryz.underlying4
  a4 := Tryz.isAgg4
  z4 := Tryz.sizeOf4
  v4 := Tryz.zeroValue4
  t21 := Tryz.underlying21
  a21 := Tryz.isAgg21
  z21 := Tryz.sizeOf21
  v21 := Tryz.zeroValue21 }
theorem Tryz.utf8_ValidRune (r : Int) (w : World) :
    Calls Tryz.prog 67 #[.int .i32 r] w fun e w' => e = .returned (.bool (Lib.validRune r)) ∧ w' = w := Any.utf8_ValidRune Tryz.lays119 r w
def Tryz.laysValid_ren : Go.Shelf.Ren := ⟨fun | 196 => 24 | 259 => 41 | n => n, fun | 9 => 9 | 4 => 4 | 3 => 3 | 5 => 5 | 12 => 12 | 119 => 67 | 0 => 0 | 46 => 71 | 139 => 70 | 138 => 69 | 53 => 94 | n => n, fun | 3 => 0 | 4 => 1 | n => n⟩
theorem Tryz.laysValid : Go.Proofs.Lays.n196 Tryz.prog Tryz.laysValid_ren := {
  mixed := by kernel_rfl
  f196 := Tryz.func24.trans (congrArg some (by kernel_rfl))
  f259 := Tryz.func41.trans (congrArg some (by kernel_rfl))
  t0 := Tryz.underlying0
  a0 := Tryz.isAgg0
  z0 := Tryz.sizeOf0
  v0 := Tryz.zeroValue0
  t3 := Tryz.underlying3
  a3 := Tryz.isAgg3
  z3 := Tryz.sizeOf3
  v3 := Tryz.zeroValue3
  t4 := Tryz.underlying4
  a4 := Tryz.isAgg4
  z4 := Tryz.sizeOf4
  v4 := Tryz.zeroValue4
  t5 := Tryz.underlying5
  a5 := Tryz.isAgg5
  z5 := Tryz.sizeOf5
  v5 := Tryz.zeroValue5
  t9 := Tryz.underlying9
  a9 := Tryz.isAgg9
  z9 := Tryz.sizeOf9
  v9 := Tryz.zeroValue9
  t12 := Tryz.underlying12
  a12 := Tryz.isAgg12
  z12 := Tryz.sizeOf12
  v12 := Tryz.zeroValue12
  t46 := Tryz.underlying71
  a46 := Tryz.isAgg71
  z46 := Tryz.sizeOf71
  v46 := Tryz.zeroValue71
  t53 := Tryz.underlying94
  a53 := Tryz.isAgg94
  z53 := Tryz.sizeOf94
  v53 := Tryz.zeroValue94
  t119 := Tryz.underlying67
  a119 := Tryz.isAgg67
  z119 := Tryz.sizeOf67
  t138 := Tryz.underlying69
  a138 := Tryz.isAgg69
  z138 := Tryz.sizeOf69
  v138 := Tryz.zeroValue69
  t139 := Tryz.underlying70
  a139 := Tryz.isAgg70
  z139 := Tryz.sizeOf70
  v139 := Tryz.zeroValue70
  g3 := by kernel_rfl
  g4 := by kernel_rfl }
end Go.Proofs
namespace Go.Proofs.YtclkfideaameoaaGreatDoor.C
open Go.RowKit

def Asc (s : ByteArray) : Prop := ∀ (j : Nat) b, s.data.toList[j]? = some b → b.toNat < 128
set_option maxRecDepth 1000000 in
theorem uy (s : ByteArray) (hs : Asc s) (w : World) : Calls Tryz.prog 71 #[.string s, .int .i32 65533] w fun e w' => e = .returned (.int .i64 (-1)) ∧ Below w.heap.size w w' := by
  go_enter Tryz.func71, Tryz.ntmps71
  go_wp2
  go_loopw [] (fun wr => ∃ (pos : Nat), wr.heap[w.heap.size]? = some (.stringIter s pos) ∧ Below w.heap.size w wr) (fun wr => s.size - wr.iterPos w.heap.size)
  case atStart =>
    refine ⟨0, ?_, (Below.refl _ w).alloc (Nat.le_refl _) _⟩
    simpa using World.iter_heap w s 0
  case round =>
    obtain ⟨pos, hit, hbw⟩ := hrel
    have hsz : w.heap.size < wr.heap.size := (Array.getElem?_eq_some_iff.1 hit).1
    by_cases hp : pos < s.size
    · have hnx : ∀ ty, (Instr.next (.pointer (some ⟨w.heap.size, 0, none⟩)) true ty).run Tryz.prog wr = _ := fun ty => Lib.run_next_any_at wr w.heap.size s pos ty hit hp
      have ha : (s[pos]'hp).toNat < 128 := hs pos _ (by simp [hp]; rfl)
      have hd := decode_ascii s pos hp ha
      have hit2 := Lib.iterAt_heap wr w.heap.size s pos (pos + 1) hit
      have hbw2 := Lib.below_iterAt hbw (k := w.heap.size) (by omega) s (pos + 1)
      rw [hd] at hnx
      have hq : ((((s[pos]'hp).toNat : Nat) : Int) == 65533) = false := by simp; omega
      go_wp2
      go_roundw
      case rel => exact ⟨pos + 1, hit2, hbw2⟩
      case measure =>
        simp only [World.iterPos, hit2, hit]
        omega
    · have hnx : ∀ ty, (Instr.next (.pointer (some ⟨w.heap.size, 0, none⟩)) true ty).run Tryz.prog wr = _ := fun ty => Lib.run_next_end_at wr w.heap.size s pos ty hit hp
      go_wp2
      go_ret
      exact ⟨rfl, hbw⟩
theorem kw {c : UInt8} : ∀ l : List UInt8, (∀ b ∈ l, b ≠ c) → Lib.indexByte l c = -1
  | [], _ => rfl
  | b :: l, h => by
    have h1 : b ≠ c := h b (by simp)
    have h2 := kw l (fun x hx => h x (by simp [hx]))
    simp [Lib.indexByte, h1, h2]
set_option maxRecDepth 1000000 in
theorem uz (s : ByteArray) (hs : Asc s) (h4 : 4 ≤ s.size) (h5 : s.size ≤ 100) (r : Int) (h0 : 128 ≤ r) (h1 : r ≤ 1114111) (hl : Lib.validRune r = true) (hr : r ≠ 65533) (w : World) : Calls Tryz.prog 71 #[.string s, .int .i32 r] w fun e w' => e = .returned (.int .i64 (-1)) ∧ Below w.heap.size w w' := by
  go_enter Tryz.func71, Tryz.ntmps71
  go_wp2_with (go_at_call 67; refine (Tryz.utf8_ValidRune _ _).mono ?_; rintro e w' ⟨rfl, rfl⟩)
  have hv : Utf8.valid r = true := by
    rw [validRune_eq]; unfold validRune; unfold Lib.validRune at hl; apply decide_eq_true; have := of_decide_eq_true hl; omega
  have hE : 2 ≤ (Utf8.encode r).size ∧ (Utf8.encode r).size ≤ 4 ∧ ∀ h : (Utf8.encode r).size - 1 < (Utf8.encode r).size, 128 ≤ ((Utf8.encode r)[(Utf8.encode r).size - 1]'h).toNat := encode_facts r hv h0
  have hcv : ∀ w, (convert 21 9 (.int .i32 r)).run Tryz.prog w = .ok (.string (Utf8.encode r)) w := fun w => run_convert_int_string w _ _ .i32 r (by kernel_rfl) Tryz.underlying9
  refine wp_scope_straight ?_
  go_wp2
  have mixed : Tryz.prog.follows .mixedOrders = true := by kernel_rfl
  obtain ⟨m, hm⟩ : ∃ m : Nat, (Utf8.encode r).size = m + 1 := ⟨(Utf8.encode r).size - 1, by omega⟩
  have hm0 : (((Utf8.encode r).size : Int) - 1) = ((m : Nat) : Int) := by omega
  have hi1 : m < s.size := by omega
  have hi2 : m < (Utf8.encode r).size := by omega
  have hE3 : 128 ≤ ((Utf8.encode r)[m]'hi2).toNat := by
    have := hE.2.2
    simp only [hm, Nat.add_sub_cancel] at this
    exact this (by omega)
  have hsm : (s[m]'hi1).toNat < 128 := hs m _ (by simp [hi1]; rfl)
  have hq : ((s[m]'hi1).toNat != ((Utf8.encode r)[m]'hi2).toNat) = true := by simp; omega
  clear hE hm
  go_loop [9] (fun i => i = .int .i64 ((m : Nat) : Int)) (fun i => 0)
  case atStart => rw [hm0]
  case round =>
    subst hrel
    rw [hm0]
    go_wp2
    refine wp_scope_straight ?_
    go_wp2
    go_region_o
    all_goals go_wp2
    have hib : Lib.indexByte (List.take (s.size - (m + 1)) (List.drop (m + 1) s.data.toList)) ((Utf8.encode r)[m]'hi2) = -1 := kw _ (fun b hb => by
      obtain ⟨k, hk, hkb⟩ := List.getElem_of_mem (List.mem_of_mem_drop (List.mem_of_mem_take hb))
      have := hs k b (by rw [List.getElem?_eq_getElem hk, hkb])
      intro e
      rw [e] at this
      omega)
    have hsl : ((m : Nat) : Int) + 1 ≤ (s.size : Int) := by omega
    have hsn : m + 1 ≤ s.size := by omega
    have hs0 : (0 : Int) ≤ ((m : Nat) : Int) + 1 := by omega
    have hsr : ∀ w k, (Instr.slice 9 (.string s) (some (.int k (((m : Nat) : Int) + 1))) none none).run Tryz.prog w = .ok (.string (s.extract (m + 1) s.size)) w := fun w k => by
      rw [run_slice_string_from_if w _ s k _ Tryz.underlying9, if_pos ⟨hs0, hsl⟩]; rfl
    have hwr : IntKind.i64.wrap (((m : Nat) : Int) + 1) = ((m : Nat) : Int) + 1 := wrap_small _ (by omega) (by omega)
    clear hsl hsn hs0
    go_region_with_o (go_at_call 105; refine (Tryz.strings_IndexByte _ _ _).mono ?_; rintro e w2 ⟨rfl, rfl⟩)
    all_goals go_wp2
    all_goals (show bodyPost Tryz.prog Tryz.f71 (fun e w1 => e = Ending.returned (Value.int .i64 (-1)) ∧ Below w'.heap.size w' w1) .ret _ _; go_ret; exact ⟨rfl, ((Below.refl _ _).drew).drew⟩)
def OkR (r : Int) : Prop := (0 ≤ r ∧ r < 55296) ∨ (57343 < r ∧ r ≤ 1114111)
theorem OkR.valid {r : Int} (h : OkR r) : Lib.validRune r = true := decide_eq_true h
theorem ks (s : ByteArray) (hs : Asc s) (h4 : 4 ≤ s.size) (h5 : s.size ≤ 100) (r : Int) (h : OkR r) (h0 : 128 ≤ r) (w : World) : Calls Tryz.prog 115 #[.string s, .int .i32 r] w fun e w' => e = .returned (.bool false) ∧ Below w.heap.size w w' := by
  have HC : Hid (Calls Tryz.prog 71 #[.string s, .int .i32 r] w fun e w' => e = .returned (.int .i64 (-1)) ∧ Below w.heap.size w w') := by
    by_cases hr : r = 65533
    · subst hr; exact uy s hs w
    · exact uz s hs h4 h5 r h0 (by unfold OkR at h; omega) h.valid hr w
  go_enter Tryz.func115, Tryz.ntmps115
  go_wp2_with (go_at_call 71; refine HC.out.mono ?_; rintro e w' ⟨rfl, hb⟩)
  go_ret
  exact ⟨rfl, hb⟩
def S4 : ByteArray := ⟨#[43, 45, 46, 64]⟩
def S14 : ByteArray := ⟨#[33, 36, 37, 38, 42, 47, 58, 60, 61, 62, 63, 94, 95, 126]⟩
theorem qli : Asc S4 := fun j b h => (by decide +kernel : ∀ b ∈ S4.data.toList, b.toNat < 128) b (List.mem_of_getElem? h)
theorem qhf : Asc S14 := fun j b h => (by decide +kernel : ∀ b ∈ S14.data.toList, b.toNat < 128) b (List.mem_of_getElem? h)
def in4 (r : Int) : Bool := decide (r = 43 ∨ r = 45 ∨ r = 46 ∨ r = 64)
def qbc (r : Int) : Bool := decide (r = 33 ∨ r = 36 ∨ r = 37 ∨ r = 38 ∨ r = 42 ∨ r = 47 ∨ r = 58 ∨ r = 60 ∨ r = 61 ∨ r = 62 ∨ r = 63 ∨ r = 94 ∨ r = 95 ∨ r = 126)
theorem ix4 : ∀ k : Nat, k < 128 → decide (0 ≤ Lib.indexByte S4.data.toList (k : Int).toNat.toUInt8) = in4 k := by decide +kernel
theorem qlj : ∀ k : Nat, k < 128 → decide (0 ≤ Lib.indexByte S14.data.toList (k : Int).toNat.toUInt8) = qbc k := by decide +kernel
theorem qhg (r : Int) (h : OkR r) (w : World) : Calls Tryz.prog 115 #[.string S4, .int .i32 r] w fun e w' => e = .returned (.bool (in4 r)) ∧ Below w.heap.size w w' := by
  by_cases hr : r < 128
  · have h0 : 0 ≤ r := by unfold OkR at h; omega
    refine (Tryz.strings_ContainsRune_ascii S4 r w h0 hr).mono ?_
    rintro e w' ⟨rfl, rfl⟩
    have := ix4 r.toNat (by omega)
    rw [Int.toNat_of_nonneg h0] at this
    exact ⟨by rw [this], Below.refl _ _⟩
  · refine (ks S4 qli (by decide) (by decide) r h (by omega) w).mono ?_
    rintro e w' ⟨rfl, hb⟩
    exact ⟨by rw [show in4 r = false from by unfold in4; apply decide_eq_false; omega], hb⟩
theorem qfh (r : Int) (h : OkR r) (w : World) : Calls Tryz.prog 115 #[.string S14, .int .i32 r] w fun e w' => e = .returned (.bool (qbc r)) ∧ Below w.heap.size w w' := by
  by_cases hr : r < 128
  · have h0 : 0 ≤ r := by unfold OkR at h; omega
    refine (Tryz.strings_ContainsRune_ascii S14 r w h0 hr).mono ?_
    rintro e w' ⟨rfl, rfl⟩
    have := qlj r.toNat (by omega)
    rw [Int.toNat_of_nonneg h0] at this
    exact ⟨by rw [this], Below.refl _ _⟩
  · refine (ks S14 qhf (by decide) (by decide) r h (by omega) w).mono ?_
    rintro e w' ⟨rfl, hb⟩
    exact ⟨by rw [show qbc r = false from by unfold qbc; apply decide_eq_false; omega], hb⟩
def uj (r : Int) : Bool := ye r || qbc r || (decide (127 < r) && !yf r)
def qbd (r : Int) : Bool := decide (48 ≤ r ∧ r ≤ 57) || in4 r
def S6 : ByteArray := ⟨#[40, 41, 91, 93, 34, 59]⟩
theorem qma : Asc S6 := fun j b h => (by decide +kernel : ∀ b ∈ S6.data.toList, b.toNat < 128) b (List.mem_of_getElem? h)
def in6 (r : Int) : Bool := decide (r = 40 ∨ r = 41 ∨ r = 91 ∨ r = 93 ∨ r = 34 ∨ r = 59)
theorem ix6 : ∀ k : Nat, k < 128 → decide (0 ≤ Lib.indexByte S6.data.toList (k : Int).toNat.toUInt8) = in6 k := by decide +kernel
theorem qhh (r : Int) (h : OkR r) (w : World) : Calls Tryz.prog 115 #[.string S6, .int .i32 r] w fun e w' => e = .returned (.bool (in6 r)) ∧ Below w.heap.size w w' := by
  by_cases hr : r < 128
  · have h0 : 0 ≤ r := by unfold OkR at h; omega
    refine (Tryz.strings_ContainsRune_ascii S6 r w h0 hr).mono ?_
    rintro e w' ⟨rfl, rfl⟩
    have := ix6 r.toNat (by omega)
    rw [Int.toNat_of_nonneg h0] at this
    exact ⟨by rw [this], Below.refl _ _⟩
  · refine (ks S6 qma (by decide) (by decide) r h (by omega) w).mono ?_
    rintro e w' ⟨rfl, hb⟩
    exact ⟨by rw [show in6 r = false from by unfold in6; apply decide_eq_false; omega], hb⟩
def uk (r : Int) : Bool := yf r || in6 r
theorem qdb (r : Int) (h : OkR r) (w : World) : Calls Tryz.prog 85 #[.int .i32 r] w fun e w' => e = .returned (.bool (uk r)) ∧ Below w.heap.size w w' := by
  have HC : Hid _ := qhh r h w
  clear h
  go_enter Tryz.func85, Tryz.ntmps85
  go_wp2_with (first | (go_at_call 115; refine Calls.mono HC.out ?_; rintro e w' ⟨rfl, hb⟩) | (go_at_call 30; refine (kv _ _).mono ?_; rintro e w' ⟨rfl, rfl⟩))
  all_goals go_ret
  all_goals refine ⟨xy ?_, by first | assumption | exact Below.refl _ _⟩
  all_goals (show (_ : Bool) = uk r; unfold uk; simp [*])
theorem qei (r : Int) (h : OkR r) (w : World) : Calls Tryz.prog 99 #[.int .i32 r] w fun e w' => e = .returned (.bool (qbd r)) ∧ Below w.heap.size w w' := by
  have HC : Hid _ := qhg r h w
  clear h
  go_enter Tryz.func99, Tryz.ntmps99
  go_wp2_with (go_at_call 115; refine Calls.mono HC.out ?_; rintro e w' ⟨rfl, hb⟩)
  all_goals go_ret
  all_goals refine ⟨xy ?_, by first | assumption | exact Below.refl _ _⟩
  all_goals (show (_ : Bool) = qbd r; unfold qbd; cases in4 r <;> simp at * <;> omega)
theorem qdc (r : Int) (h : OkR r) (w : World) : Calls Tryz.prog 97 #[.int .i32 r] w fun e w' => e = .returned (.bool (uj r)) ∧ Below w.heap.size w w' := by
  have HC : Hid _ := qfh r h w
  clear h
  go_enter Tryz.func97, Tryz.ntmps97
  go_wp2_with (first | (go_at_call 115; refine Calls.mono HC.out ?_; rintro e w' ⟨rfl, hb⟩) | (go_at_call 124; refine (ui _ _).mono ?_; rintro e w' ⟨rfl, rfl⟩) | (go_at_call 30; refine (kv _ _).mono ?_; rintro e w' ⟨rfl, rfl⟩))
  all_goals go_ret
  all_goals refine ⟨xy ?_, by first | assumption | exact Below.refl _ _⟩
  all_goals (show (_ : Bool) = uj r; unfold uj; simp [*]; try (intro _; omega))
end Go.Proofs.YtclkfideaameoaaGreatDoor.C
namespace Go.Proofs.YtclkfideaameoaaGreatDoor.G
open Go.RowKit
theorem jm {W : World} {s : ByteArray} {z : Int} (hE : Env W) (hs : s.size ≤ 140737488351232) (h0 : 0 ≤ z) (h1 : z ≤ 255) : Calls Tryz.prog 5 #[.string s, .int .u8 z] W fun e w' => e = .returned (bV true) ∧ Below W.heap.size W w' := by
 obtain ⟨k, rfl⟩ := Int.eq_ofNat_of_zero_le h0
 have h := blanks_any (L := s.data.toList) (k := k) hE (by rw [Array.length_toList]; exact Nat.le_trans hs (by decide)) (by omega)
 have e : tx s.data.toList = s := xj s
 rwa [e] at h
end Go.Proofs.YtclkfideaameoaaGreatDoor.G
namespace Go.Proofs.YtclkfideaameoaaGreatDoor.G
open Go.RowKit
set_option maxRecDepth 100000
theorem RdA_is1_3 : Is1 Tryz.prog 3 := ⟨⟨_, Tryz.underlying3, rfl⟩, by kernel_rfl⟩
theorem RdA_is1_9 : Is1 Tryz.prog 9 := ⟨⟨_, Tryz.underlying9, rfl⟩, by kernel_rfl⟩
theorem RdA_fld_50_0 : FieldAt Tryz.prog 50 0 0 := ⟨_, _, Tryz.underlying50, rfl, rfl, by kernel_rfl⟩
theorem RdA_fld_50_1 : FieldAt Tryz.prog 50 1 1 := ⟨_, _, Tryz.underlying50, rfl, rfl, by kernel_rfl⟩
def flt : List PanicEntry := [{ v := .iface 47 (.agg #[]), recovered := false }]
theorem zy {P : Program} {w : World} {l : List (Nat × Value)} {dst : Option Tmp} {ty t : TypeId} {pos : String} {after : Array Edge} {guard : Option (Nat × Bool)} {x : Operand} {v : Value} (ht : P.concrete t = true) (hx : ev l x = some v) : Does P l ⟨dst, .makeInterface t x, ty, pos, after, guard⟩ w (.iface t v) w := fun ρ h => by
 simp [execOp, h x _ hx, run_makeInterface w t v ht]
theorem jn {w : World} : Calls Tryz.prog 23 #[bV true] w fun e w' => e = .returned (.tuple #[]) ∧ Below w.heap.size w w' := by
 have M : Mg w w ([]) := Mg.start w
 refine qr (l := [(0, bV true)]) Tryz.func23 rfl Tryz.ntmps23 rfl rfl ?_
 intro Q hret hnorm hP a A
 refine wsk fun K1 hK1 => wrl (sdm A λa A↦?_)
 refine sdo (v := bV false) A (zm rfl zr) λa A↦?_
 refine qa (hK1 _ _ (cf A ?_))
 refine wp_skip (hnorm _ _ (xk (v := .tuple #[]) A rfl .nil rfl ?_))
 exact ⟨rfl, M.bel⟩
theorem zw {w : World} : Calls Tryz.prog 23 #[bV false] w fun e w' => e = .panicked flt ∧ Below w.heap.size w w' := by
 have M : Mg w w ([]) := Mg.start w
 refine zx (l := [(0, bV false)]) Tryz.func23 rfl Tryz.ntmps23 rfl rfl ?_
 intro Q hret hnorm hP hX a A
 refine wsk fun K1 hK1 => wrl (sdm A λa A↦?_)
 refine sdo (v := bV true) A (zm rfl zr) λa A↦?_
 refine qa (hK1 _ _ (ct A ?_))
 refine wrl (sdo (v := .agg #[]) A (jl rfl (fun w => by kernel_rfl)) λa A↦?_)
 refine sdo (v := .iface 47 (.agg #[])) A (zy (by kernel_rfl) rfl) λa A↦?_
 refine jp (v := .iface 47 (.agg #[])) A rfl (fun ρ h => by simp only [execOp, h (.tmp 5) _ rfl]; rfl) ?_
 exact hX _ _ _ _ _ A ⟨rfl, M.bel⟩
theorem qz {w0 w : World} {g p : Nat} {lg : Bool} {L : List UInt8} {T : List Ck} (hp : p ≤ L.length) (hM0 : Mg w0 w (.obj g (rC L p lg) :: T)) : Calls Tryz.prog 21 #[pA g 0] w fun e w' => e = .returned (.string (tx (L.drop p))) ∧ Mg w0 w' (.obj g (rC L p lg) :: T) := by
 have M : Mg w0 w (.obj g (rC L p lg) :: T) := hM0
 refine qr (l := [(0, pA g 0)]) Tryz.func21 rfl Tryz.ntmps21 rfl rfl ?_
 intro Q hret hnorm hP a A
 refine wsk fun K1 hK1 => wrl (sda A λa A↦?_)
 refine qa (hK1 _ _ (wsk fun K2 hK2 => zi (S := fun w1 => Mg w0 w1 (.obj g (rC L p lg) :: [])) (by kernel_rfl) ?_))
 replace M := M.drew
 refine amv A 0 rfl hP (M.sub (cc ns)) λa A↦?_
 refine atk A 1 rfl hP (M.sub (cc ns)) (λ_ M↦zf rfl) λa A↦?_
 refine atk (v := pA g 0) A 2 rfl hP (M.sub (cc ns)) (λ_ M↦qj RdA_fld_50_0 rfl rfl) λa A↦?_
 refine atk A 3 rfl hP (M.sub (cc ns)) (λ_ M↦zt M RdA_is1_9 rfl 0 rfl rfl) λa A↦?_
 refine amv A 4 rfl hP (M.sub (cc ns)) λa A↦?_
 refine atk A 5 rfl hP (M.sub (cc ns)) (λ_ M↦zf rfl) λa A↦?_
 refine atk (v := pA g 1) A 6 rfl hP (M.sub (cc ns)) (λ_ M↦qj RdA_fld_50_1 rfl rfl) λa A↦?_
 refine atk A 7 rfl hP (M.sub (cc ns)) (λ_ M↦zt M RdA_is1_3 rfl 0 rfl rfl) λa A↦?_
 refine atk (v := .string ((tx (L.drop p)))) A 8 rfl hP (M.sub (cc ns)) (λ_ M↦qs (s := L) (p := p) Tryz.underlying9 rfl rfl rfl (by omega)) λa A↦?_
 refine atk A 9 rfl hP (M.sub (cc ns)) (λ_ M↦zd rfl) λa A↦?_
 refine qy (by kernel_rfl) ?_
 refine hK2 _ _ (wr1 hret A ?_)
 exact ⟨rfl, M⟩
end Go.Proofs.YtclkfideaameoaaGreatDoor.G
∧ Mg w0 w' (.obj g (rC L p lg) :: T) := by
 have M : Mg w0 w (.obj g (rC L p lg) :: T) := hM0
 refine qr (l := [(0, pA g 0), (1, .string ((tx t)))]) Tryz.func32 rfl Tryz.ntmps32 rfl rfl ?_
 intro Q hret hnorm hP a A
 refine wsk fun K1 hK1 => wrl (sda A λa A↦?_)
 refine qa (hK1 _ _ (wsk fun K2 hK2 => wsk fun K3 hK3 => wrl (sdm A λa A↦?_)))
 refine sct A (ef rfl rfl) (qz (p := p) (L := L) (T := (T)) (by omega) M) ?_
 rintro _ w5 ⟨rfl, hM4⟩
 replace M : Mg w0 w5 (.obj g (rC L p lg) :: T) := hM4
 refine ⟨_, rfl, ?_⟩
 intro a A
 refine sdm A λa A↦?_
 refine gcl A M (ef rfl rfl) ((hp_as hh)) fun w7 hb6 M a A => ?_
 refine sdo (v := bV true) A (zm rfl zr) λa A↦?_
 refine qa (hK3 _ _ (ct A ?_))
 refine wsk fun K8 hK8 => wrl (sda A λa A↦?_)
 refine qa (hK8 _ _ (wr1 hret A ?_))
 exact ⟨rfl, M⟩
theorem xa {w0 w : World} {g p : Nat} {lg : Bool} {L : List UInt8} {T : List Ck} (hT : Tb w0) (hp : p ≤ L.length) (hl : L.length ≤ 1000000000) (hne : L.drop p ≠ []) (hM0 : Mg w0 w (.obj g (rC L p lg) :: T)) : Calls Tryz.prog 53 #[pA g 0] w fun e w' => e = .returned (.int .i32 (((dcX (L.drop p)).1 : Nat) : Int)) ∧ Mg w0 w' (.obj g (rC L (p + (dcX (L.drop p)).2) lg) :: T) := by
 obtain ⟨hw1, hw2⟩ := dcX_wide hne
 rw [List.length_drop] at hw2
 have M : Mg w0 w (.obj g (rC L p lg) :: T) := hM0
 refine qr (l := [(0, pA g 0)]) Tryz.func53 rfl Tryz.ntmps53 rfl rfl ?_
 intro Q hret hnorm hP a A
 refine wsk fun K1 hK1 => wrl (sda A λa A↦?_)
 refine qa (hK1 _ _ (wsk fun K2 hK2 => wrl (sdm A λa A↦?_)))
 refine sct A (ef rfl rfl) (qz (p := p) (L := L) (T := (T)) (by omega) M) ?_
 rintro _ w4 ⟨rfl, hM3⟩
 replace M : Mg w0 w4 (.obj g (rC L p lg) :: T) := hM3
 refine ⟨_, rfl, ?_⟩
 intro a A
 refine gcl A M (ef rfl rfl) (dc_any (l := L.drop p) (hT.below M.bel)) fun w6 hb5 M a A => ?_
 refine sdm A λa A↦?_
 iterate 2 refine sdo A (qp (vs := [.int .i32 ((((dcX (L.drop p)).1 : Nat) : Int)), iV ((((dcX (L.drop p)).2 : Nat) : Int))]) rfl rfl) λa A↦?_
 iterate 2 refine sda A λa A↦?_
 refine qa (hK2 _ _ (wsk fun K7 hK7 => wrl (sdm A λa A↦?_)))
 refine sdo (v := bV true) A (qb rfl rfl (fun w => (qx w).trans (by rw [show (decide (0 < (((dcX (L.drop p)).2 : Nat) : Int))) = true from (decide_eq_true (by omega))]))) λa A↦?_
 refine gcl A M (ef rfl rfl) (jn) fun w9 hb8 M a A => ?_
 refine qa (hK7 _ _ (wsk fun K10 hK10 => wrl (sdm A λa A↦?_)))
 refine sdo A (zf rfl) λa A↦?_
 refine sdo (v := pA g 1) A (qj RdB_fld_50_1 rfl rfl) λa A↦?_
 refine sdo A (zt M RdB_is1_3 rfl 0 rfl rfl) λa A↦?_
 refine sdm A λa A↦?_
 refine sdo (v := iV (((p + (dcX (L.drop p)).2 : Nat) : Int))) A (qb rfl rfl (ar_add ((in_i64 (by omega) (by omega)).trans (by omega)))) λa A↦?_
 refine sdo A (zf rfl) λa A↦?_
 refine sdo (v := pA g 1) A (qj RdB_fld_50_1 rfl rfl) λa A↦?_
 refine jz (L' := (.obj g (rC L (p + (dcX (L.drop p)).2) lg) :: T)) A M rfl rfl (jy rfl rfl rfl (by kernel_rfl) M 0 rfl rfl rfl) 0 rfl rfl rfl ?_
 intro w11 M
 refine qa (hK10 _ _ (wsk fun K12 hK12 => wrl (sdm A λa A↦?_)))
 refine sda A λa A↦?_
 refine qa (hK12 _ _ (wr1 hret A ?_))
 exact ⟨rfl, M⟩
theorem jt {w0 w : World} {g p : Nat} {lg : Bool} {L : List UInt8} {T : List Ck} (hT : Tb w0) (hp : p ≤ L.length) (hl : L.length ≤ 1000000000) (hne : L.drop p = []) (hM0 : Mg w0 w (.obj g (rC L p lg) :: T)) : Calls Tryz.prog 53 #[pA g 0] w fun e w' => e = .panicked flt ∧ Mg w0 w' (.obj g (rC L p lg) :: T) := by
 have hw1 : (dcX (L.drop p)).2 = 0 := by rw [hne]; rfl
 have M : Mg w0 w (.obj g (rC L p lg) :: T) := hM0
 refine zx (l := [(0, pA g 0)]) Tryz.func53 rfl Tryz.ntmps53 rfl rfl ?_
 intro Q hret hnorm hP hX a A
 refine wsk fun K1 hK1 => wrl (sda A λa A↦?_)
 refine qa (hK1 _ _ (wsk fun K2 hK2 => wrl (sdm A λa A↦?_)))
 refine sct A (ef rfl rfl) (qz (p := p) (L := L) (T := (T)) (by omega) M) ?_
 rintro _ w4 ⟨rfl, hM3⟩
 replace M : Mg w0 w4 (.obj g (rC L p lg) :: T) := hM3
 refine ⟨_, rfl, ?_⟩
 intro a A
 refine gcl A M (ef rfl rfl) (dc_any (l := L.drop p) (hT.below M.bel)) fun w6 hb5 M a A => ?_
 refine sdm A λa A↦?_
 iterate 2 refine sdo A (qp (vs := [.int .i32 ((((dcX (L.drop p)).1 : Nat) : Int)), iV ((((dcX (L.drop p)).2 : Nat) : Int))]) rfl rfl) λa A↦?_
 iterate 2 refine sda A λa A↦?_
 refine qa (hK2 _ _ (wsk fun K7 hK7 => wrl (sdm A λa A↦?_)))
 refine sdo (v := bV false) A (qb rfl rfl (fun w => (qx w).trans (by rw [show (decide (0 < (((dcX (L.drop p)).2 : Nat) : Int))) = false from (decide_eq_false (by omega))]))) λa A↦?_
 refine zq A rfl rfl rfl (ef rfl rfl) (zw) ?_
 rintro _ w9 ⟨rfl, hp10⟩
 exact .inl ⟨_, rfl, hX _ _ _ _ _ A (⟨rfl, M.call hp10⟩)⟩
end Go.Proofs.YtclkfideaameoaaGreatDoor.G
true) A λa A↦?_
     refine sda A λa A↦?_
     refine qa (hK2 _ _ (wr1 hret A ?_))
     exact ⟨by unfold isHx; rw [hb3, hb4, hb5, hb6]; rfl, M.bel⟩
    ·
     have hb6' := of_decide_eq_false hb6
     refine sdc A qn hb6 λa A↦?_
     iterate 2 refine sdk (v := bV false) A λa A↦?_
     iterate 2 refine sdm A λa A↦?_
     rcases tf (decide (65 ≤ ((b.toNat : Nat) : Int))) with hb7 | hb7
     ·
      have hb7' := of_decide_eq_true hb7
      refine sdc A ql hb7 λa A↦?_
      iterate 2 refine sdm A λa A↦?_
      rcases tf (decide (((b.toNat : Nat) : Int) ≤ 70)) with hb8 | hb8
      ·
       have hb8' := of_decide_eq_true hb8
       refine sdc A qn hb8 λa A↦?_
       iterate 2 refine sdk (v := bV true) A λa A↦?_
       refine sda A λa A↦?_
       refine qa (hK2 _ _ (wr1 hret A ?_))
       exact ⟨by unfold isHx; rw [hb3, hb4, hb5, hb6, hb7, hb8]; rfl, M.bel⟩
      ·
       have hb8' := of_decide_eq_false hb8
       refine sdc A qn hb8 λa A↦?_
       iterate 2 refine sdk (v := bV false) A λa A↦?_
       refine sda A λa A↦?_
       refine qa (hK2 _ _ (wr1 hret A ?_))
       exact ⟨by unfold isHx; rw [hb3, hb4, hb5, hb6, hb7, hb8]; rfl, M.bel⟩
     ·
      have hb7' := of_decide_eq_false hb7
      refine sdc A ql hb7 λa A↦?_
      refine sdm A λa A↦?_
      iterate 2 refine qg A rfl rfl rfl λa A↦?_
      iterate 2 refine sdk (v := bV false) A λa A↦?_
      refine sda A λa A↦?_
      refine qa (hK2 _ _ (wr1 hret A ?_))
      exact ⟨by unfold isHx; rw [hb3, hb4, hb5, hb6, hb7]; rfl, M.bel⟩
   ·
    have hb5' := of_decide_eq_false hb5
    refine sdc A ql hb5 λa A↦?_
    refine sdm A λa A↦?_
    iterate 2 refine qg A rfl rfl rfl λa A↦?_
    iterate 2 refine sdk (v := bV false) A λa A↦?_
    iterate 2 refine sdm A λa A↦?_
    rcases tf (decide (65 ≤ ((b.toNat : Nat) : Int))) with hb9 | hb9
    ·
     have hb9' := of_decide_eq_true hb9
     refine sdc A ql hb9 λa A↦?_
     iterate 2 refine sdm A λa A↦?_
     rcases tf (decide (((b.toNat : Nat) : Int) ≤ 70)) with hb10 | hb10
     ·
      have hb10' := of_decide_eq_true hb10
      refine sdc A qn hb10 λa A↦?_
      iterate 2 refine sdk (v := bV true) A λa A↦?_
      refine sda A λa A↦?_
      refine qa (hK2 _ _ (wr1 hret A ?_))
      exact ⟨by unfold isHx; rw [hb3, hb4, hb5, hb9, hb10]; rfl, M.bel⟩
     ·
      have hb10' := of_decide_eq_false hb10
      refine sdc A qn hb10 λa A↦?_
      iterate 2 refine sdk (v := bV false) A λa A↦?_
      refine sda A λa A↦?_
      refine qa (hK2 _ _ (wr1 hret A ?_))
      exact ⟨by unfold isHx; rw [hb3, hb4, hb5, hb9, hb10]; rfl, M.bel⟩
    ·
     have hb9' := of_decide_eq_false hb9
     refine sdc A ql hb9 λa A↦?_
     refine sdm A λa A↦?_
     iterate 2 refine qg A rfl rfl rfl λa A↦?_
     iterate 2 refine sdk (v := bV false) A λa A↦?_
     refine sda A λa A↦?_
     refine qa (hK2 _ _ (wr1 hret A ?_))
     exact ⟨by unfold isHx; rw [hb3, hb4, hb5, hb9]; rfl, M.bel⟩
 ·
  have hb3' := of_decide_eq_false hb3
  refine sdc A ql hb3 λa A↦?_
  refine sdm A λa A↦?_
  iterate 2 refine qg A rfl rfl rfl λa A↦?_
  refine sdk (v := bV false) A λa A↦?_
  iterate 2 refine sdm A λa A↦?_
  rcases tf (decide (97 ≤ ((b.toNat : Nat) : Int))) with hb11 | hb11
  ·
   have hb11' := of_decide_eq_true hb11
   refine sdc A ql hb11 λa A↦?_
   iterate 2 refine sdm A λa A↦?_
   rcases tf (decide (((b.toNat : Nat) : Int) ≤ 102)) with hb12 | hb12
   ·
    have hb12' := of_decide_eq_true hb12
    refine sdc A qn hb12 λa A↦?_
    iterate 2 refine sdk (v := bV true) A λa A↦?_
    refine sdm A λa A↦?_
    iterate 3 refine qg A rfl rfl rfl λa A↦?_
    iterate 2 refine jq A rfl rfl rfl λa A↦?_
    refine qg A rfl rfl rfl λa A↦?_
    refine sdk (v := bV true) A λa A↦?_
    refine sda A λa A↦?_
    refine qa (hK2 _ _ (wr1 hret A ?_))
    exact ⟨by unfold isHx; rw [hb3, hb11, hb12]; rfl, M.bel⟩
   ·
    have hb12' := of_decide_eq_false hb12
    refine sdc A qn hb12 λa A↦?_
    iterate 2 refine sdk (v := bV false) A λa A↦?_
    iterate 2 refine sdm A λa A↦?_
    rcases tf (decide (65 ≤ ((b.toNat : Nat) : Int))) with hb13 | hb13
    ·
     have hb13' := of_decide_eq_true hb13
     refine sdc A ql hb13 λa A↦?_
     iterate 2 refine sdm A λa A↦?_
     rcases tf (decide (((b.toNat : Nat) : Int) ≤ 70)) with hb14 | hb14
     ·
      have hb14' := of_decide_eq_true hb14
      refine sdc A qn hb14 λa A↦?_
      iterate 2 refine sdk (v := bV true) A λa A↦?_
      refine sda A λa A↦?_
      refine qa (hK2 _ _ (wr1 hret A ?_))
      exact ⟨by unfold isHx; rw [hb3, hb11, hb12, hb13, hb14]; rfl, M.bel⟩
     ·
      have hb14' := of_decide_eq_false hb14
      refine sdc A qn hb14 λa A↦?_
      iterate 2 refine sdk (v := bV false) A λa A↦?_
      refine sda A λa A↦?_
      refine qa (hK2 _ _ (wr1 hret A ?_))
      exact ⟨by unfold isHx; rw [hb3, hb11, hb12, hb13, hb14]; rfl, M.bel⟩
    ·
     have hb13' := of_decide_eq_false hb13
     refine sdc A ql hb13 λa A↦?_
     refine sdm A λa A↦?_
     iterate 2 refine qg A rfl rfl rfl λa A↦?_
     iterate 2 refine sdk (v := bV false) A λa A↦?_
     refine sda A λa A↦?_
     refine qa (hK2 _ _ (wr1 hret A ?_))
     exact ⟨by unfold isHx; rw [hb3, hb11, hb12, hb13]; rfl, M.bel⟩
  ·
   have hb11' := of_decide_eq_false hb11
   refine sdc A ql hb11 λa A↦?_
   refine sdm A λa A↦?_
   iterate 2 refine qg A rfl rfl rfl λa A↦?_
   iterate 2 refine sdk (v := bV false) A λa A↦?_
   iterate 2 refine sdm A λa A↦?_
   rcases tf (decide (65 ≤ ((b.toNat : Nat) : Int))) with hb15 | hb15
   ·
    have hb15' := of_decide_eq_true hb15
    refine sdc A ql hb15 λa A↦?_
    iterate 2 refine sdm A λa A↦?_
    rcases tf (decide (((b.toNat : Nat) : Int) ≤ 70)) with hb16 | hb16
    ·
     have hb16' := of_decide_eq_true hb16
     refine sdc A qn hb16 λa A↦?_
     iterate 2 refine sdk (v := bV true) A λa A↦?_
     refine sda A λa A↦?_
     refine qa (hK2 _ _ (wr1 hret A ?_))
     exact ⟨by unfold isHx; rw [hb3, hb11, hb15, hb16]; rfl, M.bel⟩
    ·
     have hb16' := of_decide_eq_false hb16
     refine sdc A qn hb16 λa A↦?_
     iterate 2 refine sdk (v := bV false) A λa A↦?_
     refine sda A λa A↦?_
     refine qa (hK2 _ _ (wr1 hret A ?_))
     exact ⟨by unfold isHx; rw [hb3, hb11, hb15, hb16]; rfl, M.bel⟩
   ·
    have hb15' := of_decide_eq_false hb15
    refine sdc A ql hb15 λa A↦?_
    refine sdm A λa A↦?_
    iterate 2 refine qg A rfl rfl rfl λa A↦?_
    iterate 2 refine sdk (v := bV false) A λa A↦?_
    refine sda A λa A↦?_
    refine qa (hK2 _ _ (wr1 hret A ?_))
    exact ⟨by unfold isHx; rw [hb3, hb11, hb15]; rfl, M.bel⟩
theorem jb {w : World} {b : UInt8} {c : Bool} (h : isHx b = c) : Calls Tryz.prog 116 #[.int .u8 ((b.toNat : Nat) : Int)] w fun e w' => e = .returned (bV c) ∧ Below w.heap.size w w' := h ▸ hex_any
theorem jc {w : World} {l : List UInt8} (hT : Tb w) (hl : l.length ≤ 1000000000) : Calls Tryz.prog 86 #[.string (tx l)] w fun e w' => e = .returned (iV ((tiedN l : Nat) : Int)) ∧ Below w.heap.size w w' := by
 have M : Mg w w ([]) := Mg.start w
 refine qr (l := [(0, .string ((tx l)))]) Tryz.func86 rfl Tryz.ntmps86 rfl rfl ?_
 intro Q hret hnorm hP a A
 refine wsk fun K1 hK1 => wrl (sda A λa A↦?_)
 refine qa (hK1 _ _ (wsk fun K2 hK2 => wrl (sdm A λa A↦?_)))
 refine sct A (ef rfl rfl) (dc_any (l := l) (hT.below M.bel)) ?_
 rintro _ w4 ⟨rfl, hb3⟩
 obtain ⟨q, hq⟩ : ∃ q, (dcX l).2 = q := ⟨_, rfl⟩
 have hql := dcX_le l
 rw [hq] at hql ⊢
 replace M := M.call hb3
 refine ⟨_, rfl, ?_⟩
 intro a A
 refine sdm A λa A↦?_
 iterate 2 refine sdo A (qp (vs := [.int .i32 ((((dcX l).1 : Nat) : Int)), iV (((q : Nat) : Int))]) rfl rfl) λa A↦?_
 iterate 2 refine sda A λa A↦?_
 refine qa (hK2 _ _ (wsk fun K5 hK5 => wrl (sda A λa A↦?_)))
 refine qa (hK5 _ _ (wsk fun K6 hK6 => wp_block (zl (fun m_ a w1 => ∃ (j : Nat), m_ = 1 + (l.length - (q + j)) ∧ (q + j ≤ l.length ∧ hxN (l.drop q) = j + hxN (l.drop (q + j))) ∧ Sl a 41 [(0, .string ((tx l))), (2, iV 0), (3, .int .i32 ((((dcX l).1 : Nat) : Int))), (4, iV (((q : Nat) : Int))), (5, iV (((j : Nat) : Int))), (6, .tuple #[.int .i32 ((((dcX l).1 : Nat) : Int)), iV (((q : Nat) : Int))]), (7, .string ((tx l))), (8, .tuple #[.int .i32 ((((dcX l).1 : Nat) : Int)), iV (((q : Nat) : Int))]), (9, .int .i32 ((((dcX l).1 : Nat) : Int))), (10, iV (((q : Nat) : Int)))] ∧ Mg w w1 ([])) _ ⟨0, rfl, ⟨by omega, by rw [Nat.zero_add, Nat.add_zero]⟩, A.keep _ (by repeat' constructor), M⟩ ?_)))
 clear M A
 rintro m_ a w7 ⟨j, rfl, hinv9, A, M⟩ K8 hK8
 obtain ⟨hj0, hj⟩ := hinv9
 refine wsk fun K10 hK10 => wsk fun K11 hK11 => wrl ?_
 iterate 2 refine sdm A λa A↦?_
 refine sdo (v := iV (((q + j : Nat) : Int))) A (qb rfl rfl (ar_add ((in_i64 (by omega) (by omega)).trans (by omega)))) λa A↦?_
 refine sdm A λa A↦?_
 refine sdo (v := iV (((l.length : Nat) : Int))) A (zg (s := l) Tryz.underlying9 rfl) λa A↦?_
 rcases tf (decide (((q + j : Nat) : Int) < ((l.length : Nat) : Int))) with hb12 | hb12
 ·
  have hb12' := of_decide_eq_true hb12
  refine sdc A qw hb12 λa A↦?_
  iterate 4 refine sdm A λa A↦?_
  refine sdo (v := iV (((q + j : Nat) : Int))) A (qb rfl rfl (ar_add ((in_i64 (by omega) (by omega)).trans (by omega)))) λa A↦?_
  obtain ⟨b13, hb14⟩ : ∃ b, l[q + j]? = some b := ⟨_, List.getElem?_eq_getElem (show q + j < l.length by omega)⟩
  refine sdo (v := .int .u8 (((b13.toNat : Nat) : Int))) A (zb (s := l) (i := q + j) Tryz.underlying9 rfl rfl rfl hb14) λa A↦?_
  rcases tf (isHx b13) with hb15 | hb15
  ·
   refine gcl A M (ef rfl rfl) ((jb hb15)) fun w17 hb16 M a A => ?_
   refine sdk (v := bV true) A λa A↦?_
   refine qa (hK11 _ _ (ct A ?_))
   refine wp_skip (hK10 _ _ (wp_block (wrl (sdm A λa A↦?_))))
   refine sdo (v := iV (((j + 1 : Nat) : Int))) A (qb rfl rfl (ar_add ((in_i64 (by omega) (by omega)).trans (by omega)))) λa A↦?_
   refine sda A λa A↦?_
   refine qa ?_
   refine hK8 _ _ _ (by omega) ⟨j + 1, rfl, ⟨by omega, by rw [hj, hxN_hit hb14 hb15, Nat.add_assoc]; omega⟩, A.keep _ (by repeat' constructor), M⟩
  ·
   refine gcl A M (ef rfl rfl) ((jb hb15)) fun w19 hb18 M a A => ?_
   refine sdk (v := bV false) A λa A↦?_
   refine qa (hK11 _ _ (cf A ?_))
   refine wp_exit (hK6 _ _ (wsk fun K20 hK20 => wrl ?_))
   iterate 2 refine sdm A λa A↦?_
   refine sdo (v := iV (((q + j : Nat) : Int))) A (qb rfl rfl (ar_add ((in_i64 (by omega) (by omega)).trans (by omega)))) λa A↦?_
   refine sda A λa A↦?_
   refine qa (hK20 _ _ (wsk fun K21 hK21 => wsk fun K22 hK22 => wrl (sdm A λa A↦?_)))
   rcases tf (decide (0 < ((j : Nat) : Int))) with hb23 | hb23
   ·
    have hb23' := of_decide_eq_true hb23
    refine sdc A qx hb23 λa A↦?_
    iterate 3 refine sdm A λa A↦?_
    refine sdo (v := .string ((tx (l.drop (q + j))))) A (qs (s := l) (p := q + j) Tryz.underlying9 rfl rfl rfl (by omega)) λa A↦?_
    rcases tf (Lib.hasPrefix (l.drop (q + j)) [59]) with hb24 | hb24
    ·
     refine gcl A M (ef rfl rfl) ((hp_as hb24)) fun w26 hb25 M a A => ?_
     refine sdk (v := bV true) A λa A↦?_
     refine qa (hK22 _ _ (ct A ?_))
     refine wrl (sdm A λa A↦?_)
     refine sdo (v := iV (((q + j + 1 : Nat) : Int))) A (qb rfl rfl (ar_add ((in_i64 (by omega) (by omega)).trans (by omega)))) λa A↦?_
     refine sda A λa A↦?_
     refine qa (hK21 _ _ (wsk fun K27 hK27 => wrl (sdm A λa A↦?_)))
     refine sda A λa A↦?_
     refine qa (hK27 _ _ (wr1 hret A ?_))
     have hz : hxN (l.drop (q + j)) = 0 := by first | exact hxN_not (by assumption) (by assumption) | exact hxN_end (by omega)
     have hjj : hxN (l.drop q) = j := by omega
     exact ⟨by unfold tiedN; rw [hq, hjj, hb24, if_pos (by rw [decide_eq_true (by omega)]; rfl)], M.bel⟩
    ·
     refine gcl A M (ef rfl rfl) ((hp_as hb24)) fun w29 hb28 M a A => ?_
     refine sdk (v := bV false) A λa A↦?_
     refine qa (hK22 _ _ (cf A ?_))
     refine wp_skip (hK21 _ _ (wsk fun K30 hK30 => wrl (sdm A λa A↦?_)))
     refine sda A λa A↦?_
     refine qa (hK30 _ _ (wr1 hret A ?_))
     have hz : hxN (l.drop (q + j)) = 0 := by first | exact hxN_not (by assumption) (by assumption) | exact hxN_end (by omega)
     have hjj : hxN (l.drop q) = j := by omega
     exact ⟨by unfold tiedN; rw [hq, hjj, hb24, if_neg (by rw [Bool.and_false]; decide)]; rfl, M.bel⟩
   ·
    have hb23' := of_decide_eq_false hb23
    refine sdc A qx hb23 λa A↦?_
    refine sdm A λa A↦?_
    iterate 4 refine qg A rfl rfl rfl λa A↦?_
    refine sdk (v := bV false) A λa A↦?_
    refine qa (hK22 _ _ (cf A ?_))
    refine wp_skip (hK21 _ _ (wsk fun K31 hK31 => wrl (sdm A λa A↦?_)))
    refine sda A λa A↦?_
    refine qa (hK31 _ _ (wr1 hret A ?_))
    have hz : hxN (l.drop (q + j)) = 0 := by first | exact hxN_not (by assumption) (by assumption) | exact hxN_end (by omega)
    have hjj : hxN (l.drop q) = j := by omega
    exact ⟨by unfold tiedN; rw [hq, hjj, if_neg (by rw [decide_eq_false (by omega), Bool.false_and]; decide)]; rfl, M.bel⟩
 ·
  have hb12' := of_decide_eq_false hb12
  refine sdc A qw hb12 λa A↦?_
  refine sdm A λa A↦?_
  iterate 6 refine qg A rfl rfl rfl λa A↦?_
  refine sdk (v := bV false) A λa A↦?_
  refine qa (hK11 _ _ (cf A ?_))
  refine wp_exit (hK6 _ _ (wsk fun K32 hK32 => wrl ?_))
  iterate 2 refine sdm A λa A↦?_
  refine sdo (v := iV (((q + j : Nat) : Int))) A (qb rfl rfl (ar_add ((in_i64 (by omega) (by omega)).trans (by omega)))) λa A↦?_
  refine sda A λa A↦?_
  refine qa (hK32 _ _ (wsk fun K33 hK33 => wsk fun K34 hK34 => wrl (sdm A λa A↦?_)))
  rcases tf (decide (0 < ((j : Nat) : Int))) with hb35 | hb35
  ·
   have hb35' := of_decide_eq_true hb35
   refine sdc A qx hb35 λa A↦?_
   iterate 3 refine sdm A λa A↦?_
   refine sdo (v := .string ((tx (l.drop (q + j))))) A (qs (s := l) (p := q + j) Tryz.underlying9 rfl rfl rfl (by omega)) λa A↦?_
   rcases tf (Lib.hasPrefix (l.drop (q + j)) [59]) with hb36 | hb36
   ·
    refine gcl A M (ef rfl rfl) ((hp_as hb36)) fun w38 hb37 M a A => ?_
    refine sdk (v := bV true) A λa A↦?_
    refine qa (hK34 _ _ (ct A ?_))
    refine wrl (sdm A λa A↦?_)
    refine sdo (v := iV (((q + j + 1 : Nat) : Int))) A (qb rfl rfl (ar_add ((in_i64 (by omega) (by omega)).trans (by omega)))) λa A↦?_
    refine sda A λa A↦?_
    refine qa (hK33 _ _ (wsk fun K39 hK39 => wrl (sdm A λa A↦?_)))
    refine sda A λa A↦?_
    refine qa (hK39 _ _ (wr1 hret A ?_))
    have hz : hxN (l.drop (q + j)) = 0 := by first | exact hxN_not (by assumption) (by assumption) | exact hxN_end (by omega)
    have hjj : hxN (l.drop q) = j := by omega
    exact ⟨by unfold tiedN; rw [hq, hjj, hb36, if_pos (by rw [decide_eq_true (by omega)]; rfl)], M.bel⟩
   ·
    refine gcl A M (ef rfl rfl) ((hp_as hb36)) fun w41 hb40 M a A => ?_
    refine sdk (v := bV false) A λa A↦?_
    refine qa (hK34 _ _ (cf A ?_))
    refine wp_skip (hK33 _ _ (wsk fun K42 hK42 => wrl (sdm A λa A↦?_)))
    refine sda A λa A↦?_
    refine qa (hK42 _ _ (wr1 hret A ?_))
    have hz : hxN (l.drop (q + j)) = 0 := by first | exact hxN_not (by assumption) (by assumption) | exact hxN_end (by omega)
    have hjj : hxN (l.drop q) = j := by omega
    exact ⟨by unfold tiedN; rw [hq, hjj, hb36, if_neg (by rw [Bool.and_false]; decide)]; rfl, M.bel⟩
  ·
   have hb35' := of_decide_eq_false hb35
   refine sdc A qx hb35 λa A↦?_
   refine sdm A λa A↦?_
   iterate 4 refine qg A rfl rfl rfl λa A↦?_
   refine sdk (v := bV false) A λa A↦?_
   refine qa (hK34 _ _ (cf A ?_))
   refine wp_skip (hK33 _ _ (wsk fun K43 hK43 => wrl (sdm A λa A↦?_)))
   refine sda A λa A↦?_
   refine qa (hK43 _ _ (wr1 hret A ?_))
   have hz : hxN (l.drop (q + j)) = 0 := by first | exact hxN_not (by assumption) (by assumption) | exact hxN_end (by omega)
   have hjj : hxN (l.drop q) = j := by omega
   exact ⟨by unfold tiedN; rw [hq, hjj, if_neg (by rw [decide_eq_false (by omega), Bool.false_and]; decide)]; rfl, M.bel⟩
end Go.Proofs.YtclkfideaameoaaGreatDoor.G
 ((delim_as (okR_dc _) hb15)) fun w17 hb16 M a A => ?_
   refine qa (hK14 _ _ (ct A ?_))
   refine wp_exit (hK3 _ _ (wsk fun K18 hK18 => wrl ?_))
   iterate 2 refine sdm A λa A↦?_
   refine sdo (v := .string ((tx (l.take n)))) A (zs (s := l) (p := n) Tryz.underlying9 rfl rfl rfl (by omega)) λa A↦?_
   refine sda A λa A↦?_
   refine qa (hK18 _ _ (wr1 hret A ?_))
   exact ⟨by rw [hn, show tokN (f + 1) (l.drop n) = 0 from tok_stop hb15, Nat.add_zero], M.bel⟩
  ·
   refine gcl A M (ef rfl rfl) ((delim_as (okR_dc _) hb15)) fun w20 hb19 M a A => ?_
   refine qa (hK14 _ _ (cf A ?_))
   refine wp_skip (hK13 _ _ (wsk fun K21 hK21 => wrl ?_))
   iterate 2 refine sdm A λa A↦?_
   refine sdo (v := iV (((n + (dcX (l.drop n)).2 : Nat) : Int))) A (qb rfl rfl (ar_add ((in_i64 (by omega) (by omega)).trans (by omega)))) λa A↦?_
   refine sda A λa A↦?_
   refine qa (hK21 _ _ (wsk fun K22 hK22 => wrl (sdm A λa A↦?_)))
   rcases tf (((((dcX (l.drop n)).1 : Nat) : Int) == 92)) with hb23 | hb23
   ·
    have hb23' := eq_of_beq hb23
    refine sdc A ze hb23 λa A↦?_
    refine qa (hK22 _ _ (ct A ?_))
    refine wrl ?_
    iterate 3 refine sdm A λa A↦?_
    refine sdo (v := .string ((tx (l.drop (n + (dcX (l.drop n)).2))))) A (qs (s := l) (p := n + (dcX (l.drop n)).2) Tryz.underlying9 rfl rfl rfl (by omega)) λa A↦?_
    have ht25 := tiedN_le (l.drop (n + (dcX (l.drop n)).2))
    rw [List.length_drop] at ht25
    refine gcl A M (ef rfl rfl) (jc (l := l.drop (n + (dcX (l.drop n)).2)) (hT.below M.bel) (by rw [List.length_drop]; omega)) fun w26 hb24 M a A => ?_
    refine sdo (v := iV (((n + (dcX (l.drop n)).2 + tiedN (l.drop (n + (dcX (l.drop n)).2)) : Nat) : Int))) A (qb rfl rfl (ar_add ((in_i64 (by omega) (by omega)).trans (by omega)))) λa A↦?_
    refine sda A λa A↦?_
    refine qa ?_
    have e7 := tok_go (f := f) hne hb15 (if_pos (eq_of_beq hb23))
    simp only [List.drop_drop] at e7
    refine hK5 _ _ _ (by omega) ⟨n + (dcX (l.drop n)).2 + tiedN (l.drop (n + (dcX (l.drop n)).2)), f, rfl, ⟨by omega, by omega, by rw [hn, e7, Nat.add_assoc n (dcX (l.drop n)).2 _]; exact (Nat.add_assoc _ _ _).symm⟩, A.keep _ ⟨rfl, rfl, rfl, trivial⟩, M⟩
   ·
    have hb23' := ne_of_beq_false hb23
    refine sdc A ze hb23 λa A↦?_
    refine qa (hK22 _ _ (cf A ?_))
    refine wp_skip ?_
    refine hK5 _ _ _ (by omega) ⟨n + (dcX (l.drop n)).2, f, rfl, ⟨by omega, by omega, by rw [hn, tok_go hne hb15 (if_neg (ne_of_beq_false hb23)), List.drop_drop, Nat.add_assoc]⟩, A.keep _ ⟨rfl, rfl, rfl, trivial⟩, M⟩
 ·
  have hb9' := of_decide_eq_false hb9
  refine sdc A qw hb9 λa A↦?_
  refine qa (hK8 _ _ (cf A ?_))
  refine wp_exit (hK3 _ _ (wsk fun K27 hK27 => wrl ?_))
  iterate 2 refine sdm A λa A↦?_
  refine sdo (v := .string ((tx (l.take n)))) A (zs (s := l) (p := n) Tryz.underlying9 rfl rfl rfl (by omega)) λa A↦?_
  refine sda A λa A↦?_
  refine qa (hK27 _ _ (wr1 hret A ?_))
  exact ⟨by rw [hn, show tokN (f + 1) (l.drop n) = 0 from (by rw [List.drop_eq_nil_of_le (by omega)]; exact tok_end _), Nat.add_zero], M.bel⟩
end Go.Proofs.YtclkfideaameoaaGreatDoor.G
namespace Go.Proofs.YtclkfideaameoaaGreatDoor.G
open Go.RowKit
theorem jm {W : World} {s : ByteArray} {z : Int} (hE : Env W) (hs : s.size ≤ 140737488351232) (h0 : 0 ≤ z) (h1 : z ≤ 255) : Calls Tryz.prog 5 #[.string s, .int .u8 z] W fun e w' => e = .returned (bV true) ∧ Below W.heap.size W w' := by
 obtain ⟨k, rfl⟩ := Int.eq_ofNat_of_zero_le h0
 have h := blanks_any (L := s.data.toList) (k := k) hE (by rw [Array.length_toList]; exact Nat.le_trans hs (by decide)) (by omega)
 have e : tx s.data.toList = s := xj s
 rwa [e] at h
end Go.Proofs.YtclkfideaameoaaGreatDoor.G
namespace Go.Proofs.YtclkfideaameoaaGreatDoor.G
open Go.RowKit
set_option maxRecDepth 100000
theorem RdA_is1_3 : Is1 Tryz.prog 3 := ⟨⟨_, Tryz.underlying3, rfl⟩, by kernel_rfl⟩
theorem RdA_is1_9 : Is1 Tryz.prog 9 := ⟨⟨_, Tryz.underlying9, rfl⟩, by kernel_rfl⟩
theorem RdA_fld_50_0 : FieldAt Tryz.prog 50 0 0 := ⟨_, _, Tryz.underlying50, rfl, rfl, by kernel_rfl⟩
theorem RdA_fld_50_1 : FieldAt Tryz.prog 50 1 1 := ⟨_, _, Tryz.underlying50, rfl, rfl, by kernel_rfl⟩
def flt : List PanicEntry := [{ v := .iface 47 (.agg #[]), recovered := false }]
theorem zy {P : Program} {w : World} {l : List (Nat × Value)} {dst : Option Tmp} {ty t : TypeId} {pos : String} {after : Array Edge} {guard : Option (Nat × Bool)} {x : Operand} {v : Value} (ht : P.concrete t = true) (hx : ev l x = some v) : Does P l ⟨dst, .makeInterface t x, ty, pos, after, guard⟩ w (.iface t v) w := fun ρ h => by
 simp [execOp, h x _ hx, run_makeInterface w t v ht]
theorem jn {w : World} : Calls Tryz.prog 23 #[bV true] w fun e w' => e = .returned (.tuple #[]) ∧ Below w.heap.size w w' := by
 have M : Mg w w ([]) := Mg.start w
 refine qr (l := [(0, bV true)]) Tryz.func23 rfl Tryz.ntmps23 rfl rfl ?_
 intro Q hret hnorm hP a A
 refine wsk fun K1 hK1 => wrl (sdm A λa A↦?_)
 refine sdo (v := bV false) A (zm rfl zr) λa A↦?_
 refine qa (hK1 _ _ (cf A ?_))
 refine wp_skip (hnorm _ _ (xk (v := .tuple #[]) A rfl .nil rfl ?_))
 exact ⟨rfl, M.bel⟩
theorem zw {w : World} : Calls Tryz.prog 23 #[bV false] w fun e w' => e = .panicked flt ∧ Below w.heap.size w w' := by
 have M : Mg w w ([]) := Mg.start w
 refine zx (l := [(0, bV false)]) Tryz.func23 rfl Tryz.ntmps23 rfl rfl ?_
 intro Q hret hnorm hP hX a A
 refine wsk fun K1 hK1 => wrl (sdm A λa A↦?_)
 refine sdo (v := bV true) A (zm rfl zr) λa A↦?_
 refine qa (hK1 _ _ (ct A ?_))
 refine wrl (sdo (v := .agg #[]) A (jl rfl (fun w => by kernel_rfl)) λa A↦?_)
 refine sdo (v := .iface 47 (.agg #[])) A (zy (by kernel_rfl) rfl) λa A↦?_
 refine jp (v := .iface 47 (.agg #[])) A rfl (fun ρ h => by simp only [execOp, h (.tmp 5) _ rfl]; rfl) ?_
 exact hX _ _ _ _ _ A ⟨rfl, M.bel⟩
theorem qz {w0 w : World} {g p : Nat} {lg : Bool} {L : List UInt8} {T : List Ck} (hp : p ≤ L.length) (hM0 : Mg w0 w (.obj g (rC L p lg) :: T)) : Calls Tryz.prog 21 #[pA g 0] w fun e w' => e = .returned (.string (tx (L.drop p))) ∧ Mg w0 w' (.obj g (rC L p lg) :: T) := by
 have M : Mg w0 w (.obj g (rC L p lg) :: T) := hM0
 refine qr (l := [(0, pA g 0)]) Tryz.func21 rfl Tryz.ntmps21 rfl rfl ?_
 intro Q hret hnorm hP a A
 refine wsk fun K1 hK1 => wrl (sda A λa A↦?_)
 refine qa (hK1 _ _ (wsk fun K2 hK2 => zi (S := fun w1 => Mg w0 w1 (.obj g (rC L p lg) :: [])) (by kernel_rfl) ?_))
 replace M := M.drew
 refine amv A 0 rfl hP (M.sub (cc ns)) λa A↦?_
 refine atk A 1 rfl hP (M.sub (cc ns)) (λ_ M↦zf rfl) λa A↦?_
 refine atk (v := pA g 0) A 2 rfl hP (M.sub (cc ns)) (λ_ M↦qj RdA_fld_50_0 rfl rfl) λa A↦?_
 refine atk A 3 rfl hP (M.sub (cc ns)) (λ_ M↦zt M RdA_is1_9 rfl 0 rfl rfl) λa A↦?_
 refine amv A 4 rfl hP (M.sub (cc ns)) λa A↦?_
 refine atk A 5 rfl hP (M.sub (cc ns)) (λ_ M↦zf rfl) λa A↦?_
 refine atk (v := pA g 1) A 6 rfl hP (M.sub (cc ns)) (λ_ M↦qj RdA_fld_50_1 rfl rfl) λa A↦?_
 refine atk A 7 rfl hP (M.sub (cc ns)) (λ_ M↦zt M RdA_is1_3 rfl 0 rfl rfl) λa A↦?_
 refine atk (v := .string ((tx (L.drop p)))) A 8 rfl hP (M.sub (cc ns)) (λ_ M↦qs (s := L) (p := p) Tryz.underlying9 rfl rfl rfl (by omega)) λa A↦?_
 refine atk A 9 rfl hP (M.sub (cc ns)) (λ_ M↦zd rfl) λa A↦?_
 refine qy (by kernel_rfl) ?_
 refine hK2 _ _ (wr1 hret A ?_)
 exact ⟨rfl, M⟩
end Go.Proofs.YtclkfideaameoaaGreatDoor.G
∧ Mg w0 w' (.obj g (rC L p lg) :: T) := by
 have M : Mg w0 w (.obj g (rC L p lg) :: T) := hM0
 refine qr (l := [(0, pA g 0), (1, .string ((tx t)))]) Tryz.func32 rfl Tryz.ntmps32 rfl rfl ?_
 intro Q hret hnorm hP a A
 refine wsk fun K1 hK1 => wrl (sda A λa A↦?_)
 refine qa (hK1 _ _ (wsk fun K2 hK2 => wsk fun K3 hK3 => wrl (sdm A λa A↦?_)))
 refine sct A (ef rfl rfl) (qz (p := p) (L := L) (T := (T)) (by omega) M) ?_
 rintro _ w5 ⟨rfl, hM4⟩
 replace M : Mg w0 w5 (.obj g (rC L p lg) :: T) := hM4
 refine ⟨_, rfl, ?_⟩
 intro a A
 refine sdm A λa A↦?_
 refine gcl A M (ef rfl rfl) ((hp_as hh)) fun w7 hb6 M a A => ?_
 refine sdo (v := bV true) A (zm rfl zr) λa A↦?_
 refine qa (hK3 _ _ (ct A ?_))
 refine wsk fun K8 hK8 => wrl (sda A λa A↦?_)
 refine qa (hK8 _ _ (wr1 hret A ?_))
 exact ⟨rfl, M⟩
theorem xa {w0 w : World} {g p : Nat} {lg : Bool} {L : List UInt8} {T : List Ck} (hT : Tb w0) (hp : p ≤ L.length) (hl : L.length ≤ 1000000000) (hne : L.drop p ≠ []) (hM0 : Mg w0 w (.obj g (rC L p lg) :: T)) : Calls Tryz.prog 53 #[pA g 0] w fun e w' => e = .returned (.int .i32 (((dcX (L.drop p)).1 : Nat) : Int)) ∧ Mg w0 w' (.obj g (rC L (p + (dcX (L.drop p)).2) lg) :: T) := by
 obtain ⟨hw1, hw2⟩ := dcX_wide hne
 rw [List.length_drop] at hw2
 have M : Mg w0 w (.obj g (rC L p lg) :: T) := hM0
 refine qr (l := [(0, pA g 0)]) Tryz.func53 rfl Tryz.ntmps53 rfl rfl ?_
 intro Q hret hnorm hP a A
 refine wsk fun K1 hK1 => wrl (sda A λa A↦?_)
 refine qa (hK1 _ _ (wsk fun K2 hK2 => wrl (sdm A λa A↦?_)))
 refine sct A (ef rfl rfl) (qz (p := p) (L := L) (T := (T)) (by omega) M) ?_
 rintro _ w4 ⟨rfl, hM3⟩
 replace M : Mg w0 w4 (.obj g (rC L p lg) :: T) := hM3
 refine ⟨_, rfl, ?_⟩
 intro a A
 refine gcl A M (ef rfl rfl) (dc_any (l := L.drop p) (hT.below M.bel)) fun w6 hb5 M a A => ?_
 refine sdm A λa A↦?_
 iterate 2 refine sdo A (qp (vs := [.int .i32 ((((dcX (L.drop p)).1 : Nat) : Int)), iV ((((dcX (L.drop p)).2 : Nat) : Int))]) rfl rfl) λa A↦?_
 iterate 2 refine sda A λa A↦?_
 refine qa (hK2 _ _ (wsk fun K7 hK7 => wrl (sdm A λa A↦?_)))
 refine sdo (v := bV true) A (qb rfl rfl (fun w => (qx w).trans (by rw [show (decide (0 < (((dcX (L.drop p)).2 : Nat) : Int))) = true from (decide_eq_true (by omega))]))) λa A↦?_
 refine gcl A M (ef rfl rfl) (jn) fun w9 hb8 M a A => ?_
 refine qa (hK7 _ _ (wsk fun K10 hK10 => wrl (sdm A λa A↦?_)))
 refine sdo A (zf rfl) λa A↦?_
 refine sdo (v := pA g 1) A (qj RdB_fld_50_1 rfl rfl) λa A↦?_
 refine sdo A (zt M RdB_is1_3 rfl 0 rfl rfl) λa A↦?_
 refine sdm A λa A↦?_
 refine sdo (v := iV (((p + (dcX (L.drop p)).2 : Nat) : Int))) A (qb rfl rfl (ar_add ((in_i64 (by omega) (by omega)).trans (by omega)))) λa A↦?_
 refine sdo A (zf rfl) λa A↦?_
 refine sdo (v := pA g 1) A (qj RdB_fld_50_1 rfl rfl) λa A↦?_
 refine jz (L' := (.obj g (rC L (p + (dcX (L.drop p)).2) lg) :: T)) A M rfl rfl (jy rfl rfl rfl (by kernel_rfl) M 0 rfl rfl rfl) 0 rfl rfl rfl ?_
 intro w11 M
 refine qa (hK10 _ _ (wsk fun K12 hK12 => wrl (sdm A λa A↦?_)))
 refine sda A λa A↦?_
 refine qa (hK12 _ _ (wr1 hret A ?_))
 exact ⟨rfl, M⟩
theorem jt {w0 w : World} {g p : Nat} {lg : Bool} {L : List UInt8} {T : List Ck} (hT : Tb w0) (hp : p ≤ L.length) (hl : L.length ≤ 1000000000) (hne : L.drop p = []) (hM0 : Mg w0 w (.obj g (rC L p lg) :: T)) : Calls Tryz.prog 53 #[pA g 0] w fun e w' => e = .panicked flt ∧ Mg w0 w' (.obj g (rC L p lg) :: T) := by
 have hw1 : (dcX (L.drop p)).2 = 0 := by rw [hne]; rfl
 have M : Mg w0 w (.obj g (rC L p lg) :: T) := hM0
 refine zx (l := [(0, pA g 0)]) Tryz.func53 rfl Tryz.ntmps53 rfl rfl ?_
 intro Q hret hnorm hP hX a A
 refine wsk fun K1 hK1 => wrl (sda A λa A↦?_)
 refine qa (hK1 _ _ (wsk fun K2 hK2 => wrl (sdm A λa A↦?_)))
 refine sct A (ef rfl rfl) (qz (p := p) (L := L) (T := (T)) (by omega) M) ?_
 rintro _ w4 ⟨rfl, hM3⟩
 replace M : Mg w0 w4 (.obj g (rC L p lg) :: T) := hM3
 refine ⟨_, rfl, ?_⟩
 intro a A
 refine gcl A M (ef rfl rfl) (dc_any (l := L.drop p) (hT.below M.bel)) fun w6 hb5 M a A => ?_
 refine sdm A λa A↦?_
 iterate 2 refine sdo A (qp (vs := [.int .i32 ((((dcX (L.drop p)).1 : Nat) : Int)), iV ((((dcX (L.drop p)).2 : Nat) : Int))]) rfl rfl) λa A↦?_
 iterate 2 refine sda A λa A↦?_
 refine qa (hK2 _ _ (wsk fun K7 hK7 => wrl (sdm A λa A↦?_)))
 refine sdo (v := bV false) A (qb rfl rfl (fun w => (qx w).trans (by rw [show (decide (0 < (((dcX (L.drop p)).2 : Nat) : Int))) = false from (decide_eq_false (by omega))]))) λa A↦?_
 refine zq A rfl rfl rfl (ef rfl rfl) (zw) ?_
 rintro _ w9 ⟨rfl, hp10⟩
 exact .inl ⟨_, rfl, hX _ _ _ _ _ A (⟨rfl, M.call hp10⟩)⟩
end Go.Proofs.YtclkfideaameoaaGreatDoor.G
true) A λa A↦?_
     refine sda A λa A↦?_
     refine qa (hK2 _ _ (wr1 hret A ?_))
     exact ⟨by unfold isHx; rw [hb3, hb4, hb5, hb6]; rfl, M.bel⟩
    ·
     have hb6' := of_decide_eq_false hb6
     refine sdc A qn hb6 λa A↦?_
     iterate 2 refine sdk (v := bV false) A λa A↦?_
     iterate 2 refine sdm A λa A↦?_
     rcases tf (decide (65 ≤ ((b.toNat : Nat) : Int))) with hb7 | hb7
     ·
      have hb7' := of_decide_eq_true hb7
      refine sdc A ql hb7 λa A↦?_
      iterate 2 refine sdm A λa A↦?_
      rcases tf (decide (((b.toNat : Nat) : Int) ≤ 70)) with hb8 | hb8
      ·
       have hb8' := of_decide_eq_true hb8
       refine sdc A qn hb8 λa A↦?_
       iterate 2 refine sdk (v := bV true) A λa A↦?_
       refine sda A λa A↦?_
       refine qa (hK2 _ _ (wr1 hret A ?_))
       exact ⟨by unfold isHx; rw [hb3, hb4, hb5, hb6, hb7, hb8]; rfl, M.bel⟩
      ·
       have hb8' := of_decide_eq_false hb8
       refine sdc A qn hb8 λa A↦?_
       iterate 2 refine sdk (v := bV false) A λa A↦?_
       refine sda A λa A↦?_
       refine qa (hK2 _ _ (wr1 hret A ?_))
       exact ⟨by unfold isHx; rw [hb3, hb4, hb5, hb6, hb7, hb8]; rfl, M.bel⟩
     ·
      have hb7' := of_decide_eq_false hb7
      refine sdc A ql hb7 λa A↦?_
      refine sdm A λa A↦?_
      iterate 2 refine qg A rfl rfl rfl λa A↦?_
      iterate 2 refine sdk (v := bV false) A λa A↦?_
      refine sda A λa A↦?_
      refine qa (hK2 _ _ (wr1 hret A ?_))
      exact ⟨by unfold isHx; rw [hb3, hb4, hb5, hb6, hb7]; rfl, M.bel⟩
   ·
    have hb5' := of_decide_eq_false hb5
    refine sdc A ql hb5 λa A↦?_
    refine sdm A λa A↦?_
    iterate 2 refine qg A rfl rfl rfl λa A↦?_
    iterate 2 refine sdk (v := bV false) A λa A↦?_
    iterate 2 refine sdm A λa A↦?_
    rcases tf (decide (65 ≤ ((b.toNat : Nat) : Int))) with hb9 | hb9
    ·
     have hb9' := of_decide_eq_true hb9
     refine sdc A ql hb9 λa A↦?_
     iterate 2 refine sdm A λa A↦?_
     rcases tf (decide (((b.toNat : Nat) : Int) ≤ 70)) with hb10 | hb10
     ·
      have hb10' := of_decide_eq_true hb10
      refine sdc A qn hb10 λa A↦?_
      iterate 2 refine sdk (v := bV true) A λa A↦?_
      refine sda A λa A↦?_
      refine qa (hK2 _ _ (wr1 hret A ?_))
      exact ⟨by unfold isHx; rw [hb3, hb4, hb5, hb9, hb10]; rfl, M.bel⟩
     ·
      have hb10' := of_decide_eq_false hb10
      refine sdc A qn hb10 λa A↦?_
      iterate 2 refine sdk (v := bV false) A λa A↦?_
      refine sda A λa A↦?_
      refine qa (hK2 _ _ (wr1 hret A ?_))
      exact ⟨by unfold isHx; rw [hb3, hb4, hb5, hb9, hb10]; rfl, M.bel⟩
    ·
     have hb9' := of_decide_eq_false hb9
     refine sdc A ql hb9 λa A↦?_
     refine sdm A λa A↦?_
     iterate 2 refine qg A rfl rfl rfl λa A↦?_
     iterate 2 refine sdk (v := bV false) A λa A↦?_
     refine sda A λa A↦?_
     refine qa (hK2 _ _ (wr1 hret A ?_))
     exact ⟨by unfold isHx; rw [hb3, hb4, hb5, hb9]; rfl, M.bel⟩
 ·
  have hb3' := of_decide_eq_false hb3
  refine sdc A ql hb3 λa A↦?_
  refine sdm A λa A↦?_
  iterate 2 refine qg A rfl rfl rfl λa A↦?_
  refine sdk (v := bV false) A λa A↦?_
  iterate 2 refine sdm A λa A↦?_
  rcases tf (decide (97 ≤ ((b.toNat : Nat) : Int))) with hb11 | hb11
  ·
   have hb11' := of_decide_eq_true hb11
   refine sdc A ql hb11 λa A↦?_
   iterate 2 refine sdm A λa A↦?_
   rcases tf (decide (((b.toNat : Nat) : Int) ≤ 102)) with hb12 | hb12
   ·
    have hb12' := of_decide_eq_true hb12
    refine sdc A qn hb12 λa A↦?_
    iterate 2 refine sdk (v := bV true) A λa A↦?_
    refine sdm A λa A↦?_
    iterate 3 refine qg A rfl rfl rfl λa A↦?_
    iterate 2 refine jq A rfl rfl rfl λa A↦?_
    refine qg A rfl rfl rfl λa A↦?_
    refine sdk (v := bV true) A λa A↦?_
    refine sda A λa A↦?_
    refine qa (hK2 _ _ (wr1 hret A ?_))
    exact ⟨by unfold isHx; rw [hb3, hb11, hb12]; rfl, M.bel⟩
   ·
    have hb12' := of_decide_eq_false hb12
    refine sdc A qn hb12 λa A↦?_
    iterate 2 refine sdk (v := bV false) A λa A↦?_
    iterate 2 refine sdm A λa A↦?_
    rcases tf (decide (65 ≤ ((b.toNat : Nat) : Int))) with hb13 | hb13
    ·
     have hb13' := of_decide_eq_true hb13
     refine sdc A ql hb13 λa A↦?_
     iterate 2 refine sdm A λa A↦?_
     rcases tf (decide (((b.toNat : Nat) : Int) ≤ 70)) with hb14 | hb14
     ·
      have hb14' := of_decide_eq_true hb14
      refine sdc A qn hb14 λa A↦?_
      iterate 2 refine sdk (v := bV true) A λa A↦?_
      refine sda A λa A↦?_
      refine qa (hK2 _ _ (wr1 hret A ?_))
      exact ⟨by unfold isHx; rw [hb3, hb11, hb12, hb13, hb14]; rfl, M.bel⟩
     ·
      have hb14' := of_decide_eq_false hb14
      refine sdc A qn hb14 λa A↦?_
      iterate 2 refine sdk (v := bV false) A λa A↦?_
      refine sda A λa A↦?_
      refine qa (hK2 _ _ (wr1 hret A ?_))
      exact ⟨by unfold isHx; rw [hb3, hb11, hb12, hb13, hb14]; rfl, M.bel⟩
    ·
     have hb13' := of_decide_eq_false hb13
     refine sdc A ql hb13 λa A↦?_
     refine sdm A λa A↦?_
     iterate 2 refine qg A rfl rfl rfl λa A↦?_
     iterate 2 refine sdk (v := bV false) A λa A↦?_
     refine sda A λa A↦?_
     refine qa (hK2 _ _ (wr1 hret A ?_))
     exact ⟨by unfold isHx; rw [hb3, hb11, hb12, hb13]; rfl, M.bel⟩
  ·
   have hb11' := of_decide_eq_false hb11
   refine sdc A ql hb11 λa A↦?_
   refine sdm A λa A↦?_
   iterate 2 refine qg A rfl rfl rfl λa A↦?_
   iterate 2 refine sdk (v := bV false) A λa A↦?_
   iterate 2 refine sdm A λa A↦?_
   rcases tf (decide (65 ≤ ((b.toNat : Nat) : Int))) with hb15 | hb15
   ·
    have hb15' := of_decide_eq_true hb15
    refine sdc A ql hb15 λa A↦?_
    iterate 2 refine sdm A λa A↦?_
    rcases tf (decide (((b.toNat : Nat) : Int) ≤ 70)) with hb16 | hb16
    ·
     have hb16' := of_decide_eq_true hb16
     refine sdc A qn hb16 λa A↦?_
     iterate 2 refine sdk (v := bV true) A λa A↦?_
     refine sda A λa A↦?_
     refine qa (hK2 _ _ (wr1 hret A ?_))
     exact ⟨by unfold isHx; rw [hb3, hb11, hb15, hb16]; rfl, M.bel⟩
    ·
     have hb16' := of_decide_eq_false hb16
     refine sdc A qn hb16 λa A↦?_
     iterate 2 refine sdk (v := bV false) A λa A↦?_
     refine sda A λa A↦?_
     refine qa (hK2 _ _ (wr1 hret A ?_))
     exact ⟨by unfold isHx; rw [hb3, hb11, hb15, hb16]; rfl, M.bel⟩
   ·
    have hb15' := of_decide_eq_false hb15
    refine sdc A ql hb15 λa A↦?_
    refine sdm A λa A↦?_
    iterate 2 refine qg A rfl rfl rfl λa A↦?_
    iterate 2 refine sdk (v := bV false) A λa A↦?_
    refine sda A λa A↦?_
    refine qa (hK2 _ _ (wr1 hret A ?_))
    exact ⟨by unfold isHx; rw [hb3, hb11, hb15]; rfl, M.bel⟩
theorem jb {w : World} {b : UInt8} {c : Bool} (h : isHx b = c) : Calls Tryz.prog 116 #[.int .u8 ((b.toNat : Nat) : Int)] w fun e w' => e = .returned (bV c) ∧ Below w.heap.size w w' := h ▸ hex_any
theorem jc {w : World} {l : List UInt8} (hT : Tb w) (hl : l.length ≤ 1000000000) : Calls Tryz.prog 86 #[.string (tx l)] w fun e w' => e = .returned (iV ((tiedN l : Nat) : Int)) ∧ Below w.heap.size w w' := by
 have M : Mg w w ([]) := Mg.start w
 refine qr (l := [(0, .string ((tx l)))]) Tryz.func86 rfl Tryz.ntmps86 rfl rfl ?_
 intro Q hret hnorm hP a A
 refine wsk fun K1 hK1 => wrl (sda A λa A↦?_)
 refine qa (hK1 _ _ (wsk fun K2 hK2 => wrl (sdm A λa A↦?_)))
 refine sct A (ef rfl rfl) (dc_any (l := l) (hT.below M.bel)) ?_
 rintro _ w4 ⟨rfl, hb3⟩
 obtain ⟨q, hq⟩ : ∃ q, (dcX l).2 = q := ⟨_, rfl⟩
 have hql := dcX_le l
 rw [hq] at hql ⊢
 replace M := M.call hb3
 refine ⟨_, rfl, ?_⟩
 intro a A
 refine sdm A λa A↦?_
 iterate 2 refine sdo A (qp (vs := [.int .i32 ((((dcX l).1 : Nat) : Int)), iV (((q : Nat) : Int))]) rfl rfl) λa A↦?_
 iterate 2 refine sda A λa A↦?_
 refine qa (hK2 _ _ (wsk fun K5 hK5 => wrl (sda A λa A↦?_)))
 refine qa (hK5 _ _ (wsk fun K6 hK6 => wp_block (zl (fun m_ a w1 => ∃ (j : Nat), m_ = 1 + (l.length - (q + j)) ∧ (q + j ≤ l.length ∧ hxN (l.drop q) = j + hxN (l.drop (q + j))) ∧ Sl a 41 [(0, .string ((tx l))), (2, iV 0), (3, .int .i32 ((((dcX l).1 : Nat) : Int))), (4, iV (((q : Nat) : Int))), (5, iV (((j : Nat) : Int))), (6, .tuple #[.int .i32 ((((dcX l).1 : Nat) : Int)), iV (((q : Nat) : Int))]), (7, .string ((tx l))), (8, .tuple #[.int .i32 ((((dcX l).1 : Nat) : Int)), iV (((q : Nat) : Int))]), (9, .int .i32 ((((dcX l).1 : Nat) : Int))), (10, iV (((q : Nat) : Int)))] ∧ Mg w w1 ([])) _ ⟨0, rfl, ⟨by omega, by rw [Nat.zero_add, Nat.add_zero]⟩, A.keep _ (by repeat' constructor), M⟩ ?_)))
 clear M A
 rintro m_ a w7 ⟨j, rfl, hinv9, A, M⟩ K8 hK8
 obtain ⟨hj0, hj⟩ := hinv9
 refine wsk fun K10 hK10 => wsk fun K11 hK11 => wrl ?_
 iterate 2 refine sdm A λa A↦?_
 refine sdo (v := iV (((q + j : Nat) : Int))) A (qb rfl rfl (ar_add ((in_i64 (by omega) (by omega)).trans (by omega)))) λa A↦?_
 refine sdm A λa A↦?_
 refine sdo (v := iV (((l.length : Nat) : Int))) A (zg (s := l) Tryz.underlying9 rfl) λa A↦?_
 rcases tf (decide (((q + j : Nat) : Int) < ((l.length : Nat) : Int))) with hb12 | hb12
 ·
  have hb12' := of_decide_eq_true hb12
  refine sdc A qw hb12 λa A↦?_
  iterate 4 refine sdm A λa A↦?_
  refine sdo (v := iV (((q + j : Nat) : Int))) A (qb rfl rfl (ar_add ((in_i64 (by omega) (by omega)).trans (by omega)))) λa A↦?_
  obtain ⟨b13, hb14⟩ : ∃ b, l[q + j]? = some b := ⟨_, List.getElem?_eq_getElem (show q + j < l.length by omega)⟩
  refine sdo (v := .int .u8 (((b13.toNat : Nat) : Int))) A (zb (s := l) (i := q + j) Tryz.underlying9 rfl rfl rfl hb14) λa A↦?_
  rcases tf (isHx b13) with hb15 | hb15
  ·
   refine gcl A M (ef rfl rfl) ((jb hb15)) fun w17 hb16 M a A => ?_
   refine sdk (v := bV true) A λa A↦?_
   refine qa (hK11 _ _ (ct A ?_))
   refine wp_skip (hK10 _ _ (wp_block (wrl (sdm A λa A↦?_))))
   refine sdo (v := iV (((j + 1 : Nat) : Int))) A (qb rfl rfl (ar_add ((in_i64 (by omega) (by omega)).trans (by omega)))) λa A↦?_
   refine sda A λa A↦?_
   refine qa ?_
   refine hK8 _ _ _ (by omega) ⟨j + 1, rfl, ⟨by omega, by rw [hj, hxN_hit hb14 hb15, Nat.add_assoc]; omega⟩, A.keep _ (by repeat' constructor), M⟩
  ·
   refine gcl A M (ef rfl rfl) ((jb hb15)) fun w19 hb18 M a A => ?_
   refine sdk (v := bV false) A λa A↦?_
   refine qa (hK11 _ _ (cf A ?_))
   refine wp_exit (hK6 _ _ (wsk fun K20 hK20 => wrl ?_))
   iterate 2 refine sdm A λa A↦?_
   refine sdo (v := iV (((q + j : Nat) : Int))) A (qb rfl rfl (ar_add ((in_i64 (by omega) (by omega)).trans (by omega)))) λa A↦?_
   refine sda A λa A↦?_
   refine qa (hK20 _ _ (wsk fun K21 hK21 => wsk fun K22 hK22 => wrl (sdm A λa A↦?_)))
   rcases tf (decide (0 < ((j : Nat) : Int))) with hb23 | hb23
   ·
    have hb23' := of_decide_eq_true hb23
    refine sdc A qx hb23 λa A↦?_
    iterate 3 refine sdm A λa A↦?_
    refine sdo (v := .string ((tx (l.drop (q + j))))) A (qs (s := l) (p := q + j) Tryz.underlying9 rfl rfl rfl (by omega)) λa A↦?_
    rcases tf (Lib.hasPrefix (l.drop (q + j)) [59]) with hb24 | hb24
    ·
     refine gcl A M (ef rfl rfl) ((hp_as hb24)) fun w26 hb25 M a A => ?_
     refine sdk (v := bV true) A λa A↦?_
     refine qa (hK22 _ _ (ct A ?_))
     refine wrl (sdm A λa A↦?_)
     refine sdo (v := iV (((q + j + 1 : Nat) : Int))) A (qb rfl rfl (ar_add ((in_i64 (by omega) (by omega)).trans (by omega)))) λa A↦?_
     refine sda A λa A↦?_
     refine qa (hK21 _ _ (wsk fun K27 hK27 => wrl (sdm A λa A↦?_)))
     refine sda A λa A↦?_
     refine qa (hK27 _ _ (wr1 hret A ?_))
     have hz : hxN (l.drop (q + j)) = 0 := by first | exact hxN_not (by assumption) (by assumption) | exact hxN_end (by omega)
     have hjj : hxN (l.drop q) = j := by omega
     exact ⟨by unfold tiedN; rw [hq, hjj, hb24, if_pos (by rw [decide_eq_true (by omega)]; rfl)], M.bel⟩
    ·
     refine gcl A M (ef rfl rfl) ((hp_as hb24)) fun w29 hb28 M a A => ?_
     refine sdk (v := bV false) A λa A↦?_
     refine qa (hK22 _ _ (cf A ?_))
     refine wp_skip (hK21 _ _ (wsk fun K30 hK30 => wrl (sdm A λa A↦?_)))
     refine sda A λa A↦?_
     refine qa (hK30 _ _ (wr1 hret A ?_))
     have hz : hxN (l.drop (q + j)) = 0 := by first | exact hxN_not (by assumption) (by assumption) | exact hxN_end (by omega)
     have hjj : hxN (l.drop q) = j := by omega
     exact ⟨by unfold tiedN; rw [hq, hjj, hb24, if_neg (by rw [Bool.and_false]; decide)]; rfl, M.bel⟩
   ·
    have hb23' := of_decide_eq_false hb23
    refine sdc A qx hb23 λa A↦?_
    refine sdm A λa A↦?_
    iterate 4 refine qg A rfl rfl rfl λa A↦?_
    refine sdk (v := bV false) A λa A↦?_
    refine qa (hK22 _ _ (cf A ?_))
    refine wp_skip (hK21 _ _ (wsk fun K31 hK31 => wrl (sdm A λa A↦?_)))
    refine sda A λa A↦?_
    refine qa (hK31 _ _ (wr1 hret A ?_))
    have hz : hxN (l.drop (q + j)) = 0 := by first | exact hxN_not (by assumption) (by assumption) | exact hxN_end (by omega)
    have hjj : hxN (l.drop q) = j := by omega
    exact ⟨by unfold tiedN; rw [hq, hjj, if_neg (by rw [decide_eq_false (by omega), Bool.false_and]; decide)]; rfl, M.bel⟩
 ·
  have hb12' := of_decide_eq_false hb12
  refine sdc A qw hb12 λa A↦?_
  refine sdm A λa A↦?_
  iterate 6 refine qg A rfl rfl rfl λa A↦?_
  refine sdk (v := bV false) A λa A↦?_
  refine qa (hK11 _ _ (cf A ?_))
  refine wp_exit (hK6 _ _ (wsk fun K32 hK32 => wrl ?_))
  iterate 2 refine sdm A λa A↦?_
  refine sdo (v := iV (((q + j : Nat) : Int))) A (qb rfl rfl (ar_add ((in_i64 (by omega) (by omega)).trans (by omega)))) λa A↦?_
  refine sda A λa A↦?_
  refine qa (hK32 _ _ (wsk fun K33 hK33 => wsk fun K34 hK34 => wrl (sdm A λa A↦?_)))
  rcases tf (decide (0 < ((j : Nat) : Int))) with hb35 | hb35
  ·
   have hb35' := of_decide_eq_true hb35
   refine sdc A qx hb35 λa A↦?_
   iterate 3 refine sdm A λa A↦?_
   refine sdo (v := .string ((tx (l.drop (q + j))))) A (qs (s := l) (p := q + j) Tryz.underlying9 rfl rfl rfl (by omega)) λa A↦?_
   rcases tf (Lib.hasPrefix (l.drop (q + j)) [59]) with hb36 | hb36
   ·
    refine gcl A M (ef rfl rfl) ((hp_as hb36)) fun w38 hb37 M a A => ?_
    refine sdk (v := bV true) A λa A↦?_
    refine qa (hK34 _ _ (ct A ?_))
    refine wrl (sdm A λa A↦?_)
    refine sdo (v := iV (((q + j + 1 : Nat) : Int))) A (qb rfl rfl (ar_add ((in_i64 (by omega) (by omega)).trans (by omega)))) λa A↦?_
    refine sda A λa A↦?_
    refine qa (hK33 _ _ (wsk fun K39 hK39 => wrl (sdm A λa A↦?_)))
    refine sda A λa A↦?_
    refine qa (hK39 _ _ (wr1 hret A ?_))
    have hz : hxN (l.drop (q + j)) = 0 := by first | exact hxN_not (by assumption) (by assumption) | exact hxN_end (by omega)
    have hjj : hxN (l.drop q) = j := by omega
    exact ⟨by unfold tiedN; rw [hq, hjj, hb36, if_pos (by rw [decide_eq_true (by omega)]; rfl)], M.bel⟩
   ·
    refine gcl A M (ef rfl rfl) ((hp_as hb36)) fun w41 hb40 M a A => ?_
    refine sdk (v := bV false) A λa A↦?_
    refine qa (hK34 _ _ (cf A ?_))
    refine wp_skip (hK33 _ _ (wsk fun K42 hK42 => wrl (sdm A λa A↦?_)))
    refine sda A λa A↦?_
    refine qa (hK42 _ _ (wr1 hret A ?_))
    have hz : hxN (l.drop (q + j)) = 0 := by first | exact hxN_not (by assumption) (by assumption) | exact hxN_end (by omega)
    have hjj : hxN (l.drop q) = j := by omega
    exact ⟨by unfold tiedN; rw [hq, hjj, hb36, if_neg (by rw [Bool.and_false]; decide)]; rfl, M.bel⟩
  ·
   have hb35' := of_decide_eq_false hb35
   refine sdc A qx hb35 λa A↦?_
   refine sdm A λa A↦?_
   iterate 4 refine qg A rfl rfl rfl λa A↦?_
   refine sdk (v := bV false) A λa A↦?_
   refine qa (hK34 _ _ (cf A ?_))
   refine wp_skip (hK33 _ _ (wsk fun K43 hK43 => wrl (sdm A λa A↦?_)))
   refine sda A λa A↦?_
   refine qa (hK43 _ _ (wr1 hret A ?_))
   have hz : hxN (l.drop (q + j)) = 0 := by first | exact hxN_not (by assumption) (by assumption) | exact hxN_end (by omega)
   have hjj : hxN (l.drop q) = j := by omega
   exact ⟨by unfold tiedN; rw [hq, hjj, if_neg (by rw [decide_eq_false (by omega), Bool.false_and]; decide)]; rfl, M.bel⟩
end Go.Proofs.YtclkfideaameoaaGreatDoor.G
 ((delim_as (okR_dc _) hb15)) fun w17 hb16 M a A => ?_
   refine qa (hK14 _ _ (ct A ?_))
   refine wp_exit (hK3 _ _ (wsk fun K18 hK18 => wrl ?_))
   iterate 2 refine sdm A λa A↦?_
   refine sdo (v := .string ((tx (l.take n)))) A (zs (s := l) (p := n) Tryz.underlying9 rfl rfl rfl (by omega)) λa A↦?_
   refine sda A λa A↦?_
   refine qa (hK18 _ _ (wr1 hret A ?_))
   exact ⟨by rw [hn, show tokN (f + 1) (l.drop n) = 0 from tok_stop hb15, Nat.add_zero], M.bel⟩
  ·
   refine gcl A M (ef rfl rfl) ((delim_as (okR_dc _) hb15)) fun w20 hb19 M a A => ?_
   refine qa (hK14 _ _ (cf A ?_))
   refine wp_skip (hK13 _ _ (wsk fun K21 hK21 => wrl ?_))
   iterate 2 refine sdm A λa A↦?_
   refine sdo (v := iV (((n + (dcX (l.drop n)).2 : Nat) : Int))) A (qb rfl rfl (ar_add ((in_i64 (by omega) (by omega)).trans (by omega)))) λa A↦?_
   refine sda A λa A↦?_
   refine qa (hK21 _ _ (wsk fun K22 hK22 => wrl (sdm A λa A↦?_)))
   rcases tf (((((dcX (l.drop n)).1 : Nat) : Int) == 92)) with hb23 | hb23
   ·
    have hb23' := eq_of_beq hb23
    refine sdc A ze hb23 λa A↦?_
    refine qa (hK22 _ _ (ct A ?_))
    refine wrl ?_
    iterate 3 refine sdm A λa A↦?_
    refine sdo (v := .string ((tx (l.drop (n + (dcX (l.drop n)).2))))) A (qs (s := l) (p := n + (dcX (l.drop n)).2) Tryz.underlying9 rfl rfl rfl (by omega)) λa A↦?_
    have ht25 := tiedN_le (l.drop (n + (dcX (l.drop n)).2))
    rw [List.length_drop] at ht25
    refine gcl A M (ef rfl rfl) (jc (l := l.drop (n + (dcX (l.drop n)).2)) (hT.below M.bel) (by rw [List.length_drop]; omega)) fun w26 hb24 M a A => ?_
    refine sdo (v := iV (((n + (dcX (l.drop n)).2 + tiedN (l.drop (n + (dcX (l.drop n)).2)) : Nat) : Int))) A (qb rfl rfl (ar_add ((in_i64 (by omega) (by omega)).trans (by omega)))) λa A↦?_
    refine sda A λa A↦?_
    refine qa ?_
    have e7 := tok_go (f := f) hne hb15 (if_pos (eq_of_beq hb23))
    simp only [List.drop_drop] at e7
    refine hK5 _ _ _ (by omega) ⟨n + (dcX (l.drop n)).2 + tiedN (l.drop (n + (dcX (l.drop n)).2)), f, rfl, ⟨by omega, by omega, by rw [hn, e7, Nat.add_assoc n (dcX (l.drop n)).2 _]; exact (Nat.add_assoc _ _ _).symm⟩, A.keep _ ⟨rfl, rfl, rfl, trivial⟩, M⟩
   ·
    have hb23' := ne_of_beq_false hb23
    refine sdc A ze hb23 λa A↦?_
    refine qa (hK22 _ _ (cf A ?_))
    refine wp_skip ?_
    refine hK5 _ _ _ (by omega) ⟨n + (dcX (l.drop n)).2, f, rfl, ⟨by omega, by omega, by rw [hn, tok_go hne hb15 (if_neg (ne_of_beq_false hb23)), List.drop_drop, Nat.add_assoc]⟩, A.keep _ ⟨rfl, rfl, rfl, trivial⟩, M⟩
 ·
  have hb9' := of_decide_eq_false hb9
  refine sdc A qw hb9 λa A↦?_
  refine qa (hK8 _ _ (cf A ?_))
  refine wp_exit (hK3 _ _ (wsk fun K27 hK27 => wrl ?_))
  iterate 2 refine sdm A λa A↦?_
  refine sdo (v := .string ((tx (l.take n)))) A (zs (s := l) (p := n) Tryz.underlying9 rfl rfl rfl (by omega)) λa A↦?_
  refine sda A λa A↦?_
  refine qa (hK27 _ _ (wr1 hret A ?_))
  exact ⟨by rw [hn, show tokN (f + 1) (l.drop n) = 0 from (by rw [List.drop_eq_nil_of_le (by omega)]; exact tok_end _), Nat.add_zero], M.bel⟩
end Go.Proofs.YtclkfideaameoaaGreatDoor.G
neg (of_decide_eq_false hb5), if_neg (of_decide_eq_false hb8), if_pos (of_decide_eq_true hb11)]; rfl, M.bel⟩
   ·
    have hb11' := of_decide_eq_false hb11
    refine sdo (v := bV false) A (qb rfl rfl (fun w => (qe (a := l) (b := [98, 97, 99, 107, 115, 112, 97, 99, 101]) Tryz.underlying9 w).trans (by rw [hb11] <;> rfl))) λa A↦?_
    refine sda A λa A↦?_
    refine qa (hK10 _ _ (cf A ?_))
    refine wsk fun K13 hK13 => wrl ?_
    rcases tf (decide (l = [116, 97, 98])) with hb14 | hb14
    ·
     have hb14' := of_decide_eq_true hb14
     refine sdo (v := bV true) A (qb rfl rfl (fun w => (qe (a := l) (b := [116, 97, 98]) Tryz.underlying9 w).trans (by rw [hb14] <;> rfl))) λa A↦?_
     refine sda A λa A↦?_
     refine qa (hK13 _ _ (ct A ?_))
     refine wsk fun K15 hK15 => wrl ?_
     iterate 2 refine sda A λa A↦?_
     refine qa (hK15 _ _ (wp_ret (hret _ _ (en2 A rfl (qf rfl) (qf rfl) ?_))))
     exact ⟨by unfold nmdX; rw [if_neg (of_decide_eq_false hb5), if_neg (of_decide_eq_false hb8), if_neg (of_decide_eq_false hb11), if_pos (of_decide_eq_true hb14)]; rfl, M.bel⟩
    ·
     have hb14' := of_decide_eq_false hb14
     refine sdo (v := bV false) A (qb rfl rfl (fun w => (qe (a := l) (b := [116, 97, 98]) Tryz.underlying9 w).trans (by rw [hb14] <;> rfl))) λa A↦?_
     refine sda A λa A↦?_
     refine qa (hK13 _ _ (cf A ?_))
     refine wsk fun K16 hK16 => wsk fun K17 hK17 => wrl ?_
     rcases tf (decide (l = [108, 105, 110, 101, 102, 101, 101, 100])) with hb18 | hb18
     ·
      have hb18' := of_decide_eq_true hb18
      refine sdo (v := bV true) A (qb rfl rfl (fun w => (qe (a := l) (b := [108, 105, 110, 101, 102, 101, 101, 100]) Tryz.underlying9 w).trans (by rw [hb18] <;> rfl))) λa A↦?_
      refine sda A λa A↦?_
      refine qa (hK17 _ _ (ct A ?_))
      refine wp_skip (hK16 _ _ (ct A ?_))
      refine wsk fun K19 hK19 => wrl ?_
      iterate 2 refine sda A λa A↦?_
      refine qa (hK19 _ _ (wp_ret (hret _ _ (en2 A rfl (qf rfl) (qf rfl) ?_))))
      exact ⟨by unfold nmdX; rw [if_neg (of_decide_eq_false hb5), if_neg (of_decide_eq_false hb8), if_neg (of_decide_eq_false hb11), if_neg (of_decide_eq_false hb14), if_pos (of_decide_eq_true hb18)]; rfl, M.bel⟩
     ·
      have hb18' := of_decide_eq_false hb18
      refine sdo (v := bV false) A (qb rfl rfl (fun w => (qe (a := l) (b := [108, 105, 110, 101, 102, 101, 101, 100]) Tryz.underlying9 w).trans (by rw [hb18] <;> rfl))) λa A↦?_
      refine sda A λa A↦?_
      refine qa (hK17 _ _ (cf A ?_))
      refine wrl ?_
      rcases tf (decide (l = [110, 101, 119, 108, 105, 110, 101])) with hb20 | hb20
      ·
       have hb20' := of_decide_eq_true hb20
       refine sdo (v := bV true) A (qb rfl rfl (fun w => (qe (a := l) (b := [110, 101, 119, 108, 105, 110, 101]) Tryz.underlying9 w).trans (by rw [hb20] <;> rfl))) λa A↦?_
       refine sda A λa A↦?_
       refine qa (hK16 _ _ (ct A ?_))
       refine wsk fun K21 hK21 => wrl ?_
       iterate 2 refine sda A λa A↦?_
       refine qa (hK21 _ _ (wp_ret (hret _ _ (en2 A rfl (qf rfl) (qf rfl) ?_))))
       exact ⟨by unfold nmdX; rw [if_neg (of_decide_eq_false hb5), if_neg (of_decide_eq_false hb8), if_neg (of_decide_eq_false hb11), if_neg (of_decide_eq_false hb14), if_neg (of_decide_eq_false hb18), if_pos (of_decide_eq_true hb20)]; rfl, M.bel⟩
      ·
       have hb20' := of_decide_eq_false hb20
       refine sdo (v := bV false) A (qb rfl rfl (fun w => (qe (a := l) (b := [110, 101, 119, 108, 105, 110, 101]) Tryz.underlying9 w).trans (by rw [hb20] <;> rfl))) λa A↦?_
       refine sda A λa A↦?_
       refine qa (hK16 _ _ (cf A ?_))
       refine wsk fun K22 hK22 => wrl ?_
       rcases tf (decide (l = [118, 116, 97, 98])) with hb23 | hb23
       ·
        have hb23' := of_decide_eq_true hb23
        refine sdo (v := bV true) A (qb rfl rfl (fun w => (qe (a := l) (b := [118, 116, 97, 98]) Tryz.underlying9 w).trans (by rw [hb23] <;> rfl))) λa A↦?_
        refine sda A λa A↦?_
        refine qa (hK22 _ _ (ct A ?_))
        refine wsk fun K24 hK24 => wrl ?_
        iterate 2 refine sda A λa A↦?_
        refine qa (hK24 _ _ (wp_ret (hret _ _ (en2 A rfl (qf rfl) (qf rfl) ?_))))
        exact ⟨by unfold nmdX; rw [if_neg (of_decide_eq_false hb5), if_neg (of_decide_eq_false hb8), if_neg (of_decide_eq_false hb11), if_neg (of_decide_eq_false hb14), if_neg (of_decide_eq_false hb18), if_neg (of_decide_eq_false hb20), if_pos (of_decide_eq_true hb23)]; rfl, M.bel⟩
       ·
        have hb23' := of_decide_eq_false hb23
        refine sdo (v := bV false) A (qb rfl rfl (fun w => (qe (a := l) (b := [118, 116, 97, 98]) Tryz.underlying9 w).trans (by rw [hb23] <;> rfl))) λa A↦?_
        refine sda A λa A↦?_
        refine qa (hK22 _ _ (cf A ?_))
        refine wsk fun K25 hK25 => wrl ?_
        rcases tf (decide (l = [112, 97, 103, 101])) with hb26 | hb26
        ·
         have hb26' := of_decide_eq_true hb26
         refine sdo (v := bV true) A (qb rfl rfl (fun w => (qe (a := l) (b := [112, 97, 103, 101]) Tryz.underlying9 w).trans (by rw [hb26] <;> rfl))) λa A↦?_
         refine sda A λa A↦?_
         refine qa (hK25 _ _ (ct A ?_))
         refine wsk fun K27 hK27 => wrl ?_
         iterate 2 refine sda A λa A↦?_
         refine qa (hK27 _ _ (wp_ret (hret _ _ (en2 A rfl (qf rfl) (qf rfl) ?_))))
         exact ⟨by unfold nmdX; rw [if_neg (of_decide_eq_false hb5), if_neg (of_decide_eq_false hb8), if_neg (of_decide_eq_false hb11), if_neg (of_decide_eq_false hb14), if_neg (of_decide_eq_false hb18), if_neg (of_decide_eq_false hb20), if_neg (of_decide_eq_false hb23), if_pos (of_decide_eq_true hb26)]; rfl, M.bel⟩
        ·
         have hb26' := of_decide_eq_false hb26
         refine sdo (v := bV false) A (qb rfl rfl (fun w => (qe (a := l) (b := [112, 97, 103, 101]) Tryz.underlying9 w).trans (by rw [hb26] <;> rfl))) λa A↦?_
         refine sda A λa A↦?_
         refine qa (hK25 _ _ (cf A ?_))
         refine wsk fun K28 hK28 => wrl ?_
         rcases tf (decide (l = [114, 101, 116, 117, 114, 110])) with hb29 | hb29
         ·
          have hb29' := of_decide_eq_true hb29
          refine sdo (v := bV true) A (qb rfl rfl (fun w => (qe (a := l) (b := [114, 101, 116, 117, 114, 110]) Tryz.underlying9 w).trans (by rw [hb29] <;> rfl))) λa A↦?_
          refine sda A λa A↦?_
          refine qa (hK28 _ _ (ct A ?_))
          refine wsk fun K30 hK30 => wrl ?_
          iterate 2 refine sda A λa A↦?_
          refine qa (hK30 _ _ (wp_ret (hret _ _ (en2 A rfl (qf rfl) (qf rfl) ?_))))
          exact ⟨by unfold nmdX; rw [if_neg (of_decide_eq_false hb5), if_neg (of_decide_eq_false hb8), if_neg (of_decide_eq_false hb11), if_neg (of_decide_eq_false hb14), if_neg (of_decide_eq_false hb18), if_neg (of_decide_eq_false hb20), if_neg (of_decide_eq_false hb23), if_neg (of_decide_eq_false hb26), if_pos (of_decide_eq_true hb29)]; rfl, M.bel⟩
         ·
          have hb29' := of_decide_eq_false hb29
          refine sdo (v := bV false) A (qb rfl rfl (fun w => (qe (a := l) (b := [114, 101, 116, 117, 114, 110]) Tryz.underlying9 w).trans (by rw [hb29] <;> rfl))) λa A↦?_
          refine sda A λa A↦?_
          refine qa (hK28 _ _ (cf A ?_))
          refine wsk fun K31 hK31 => wrl ?_
          rcases tf (decide (l = [101, 115, 99])) with hb32 | hb32
          ·
           have hb32' := of_decide_eq_true hb32
           refine sdo (v := bV true) A (qb rfl rfl (fun w => (qe (a := l) (b := [101, 115, 99]) Tryz.underlying9 w).trans (by rw [hb32] <;> rfl))) λa A↦?_
           refine sda A λa A↦?_
           refine qa (hK31 _ _ (ct A ?_))
           refine wsk fun K33 hK33 => wrl ?_
           iterate 2 refine sda A λa A↦?_
           refine qa (hK33 _ _ (wp_ret (hret _ _ (en2 A rfl (qf rfl) (qf rfl) ?_))))
           exact ⟨by unfold nmdX; rw [if_neg (of_decide_eq_false hb5), if_neg (of_decide_eq_false hb8), if_neg (of_decide_eq_false hb11), if_neg (of_decide_eq_false hb14), if_neg (of_decide_eq_false hb18), if_neg (of_decide_eq_false hb20), if_neg (of_decide_eq_false hb23), if_neg (of_decide_eq_false hb26), if_neg (of_decide_eq_false hb29), if_pos (of_decide_eq_true hb32)]; rfl, M.bel⟩
          ·
           have hb32' := of_decide_eq_false hb32
           refine sdo (v := bV false) A (qb rfl rfl (fun w => (qe (a := l) (b := [101, 115, 99]) Tryz.underlying9 w).trans (by rw [hb32] <;> rfl))) λa A↦?_
           refine sda A λa A↦?_
           refine qa (hK31 _ _ (cf A ?_))
           refine wsk fun K34 hK34 => wrl ?_
           rcases tf (decide (l = [115, 112, 97, 99, 101])) with hb35 | hb35
           ·
            have hb35' := of_decide_eq_true hb35
            refine sdo (v := bV true) A (qb rfl rfl (fun w => (qe (a := l) (b := [115, 112, 97, 99, 101]) Tryz.underlying9 w).trans (by rw [hb35] <;> rfl))) λa A↦?_
            refine sda A λa A↦?_
            refine qa (hK34 _ _ (ct A ?_))
            refine wsk fun K36 hK36 => wrl ?_
            iterate 2 refine sda A λa A↦?_
            refine qa (hK36 _ _ (wp_ret (hret _ _ (en2 A rfl (qf rfl) (qf rfl) ?_))))
            exact ⟨by unfold nmdX; rw [if_neg (of_decide_eq_false hb5), if_neg (of_decide_eq_false hb8), if_neg (of_decide_eq_false hb11), if_neg (of_decide_eq_false hb14), if_neg (of_decide_eq_false hb18), if_neg (of_decide_eq_false hb20), if_neg (of_decide_eq_false hb23), if_neg (of_decide_eq_false hb26), if_neg (of_decide_eq_false hb29), if_neg (of_decide_eq_false hb32), if_pos (of_decide_eq_true hb35)]; rfl, M.bel⟩
           ·
            have hb35' := of_decide_eq_false hb35
            refine sdo (v := bV false) A (qb rfl rfl (fun w => (qe (a := l) (b := [115, 112, 97, 99, 101]) Tryz.underlying9 w).trans (by rw [hb35] <;> rfl))) λa A↦?_
            refine sda A λa A↦?_
            refine qa (hK34 _ _ (cf A ?_))
            refine wsk fun K37 hK37 => wrl ?_
            rcases tf (decide (l = [100, 101, 108, 101, 116, 101])) with hb38 | hb38
            ·
             have hb38' := of_decide_eq_true hb38
             refine sdo (v := bV true) A (qb rfl rfl (fun w => (qe (a := l) (b := [100, 101, 108, 101, 116, 101]) Tryz.underlying9 w).trans (by rw [hb38] <;> rfl))) λa A↦?_
             refine sda A λa A↦?_
             refine qa (hK37 _ _ (ct A ?_))
             refine wsk fun K39 hK39 => wrl ?_
             iterate 2 refine sda A λa A↦?_
             refine qa (hK39 _ _ (wp_ret (hret _ _ (en2 A rfl (qf rfl) (qf rfl) ?_))))
             exact ⟨by unfold nmdX; rw [if_neg (of_decide_eq_false hb5), if_neg (of_decide_eq_false hb8), if_neg (of_decide_eq_false hb11), if_neg (of_decide_eq_false hb14), if_neg (of_decide_eq_false hb18), if_neg (of_decide_eq_false hb20), if_neg (of_decide_eq_false hb23), if_neg (of_decide_eq_false hb26), if_neg (of_decide_eq_false hb29), if_neg (of_decide_eq_false hb32), if_neg (of_decide_eq_false hb35), if_pos (of_decide_eq_true hb38)]; rfl, M.bel⟩
            ·
             have hb38' := of_decide_eq_false hb38
             refine sdo (v := bV false) A (qb rfl rfl (fun w => (qe (a := l) (b := [100, 101, 108, 101, 116, 101]) Tryz.underlying9 w).trans (by rw [hb38] <;> rfl))) λa A↦?_
             refine sda A λa A↦?_
             refine qa (hK37 _ _ (cf A ?_))
             refine wp_skip (hK2 _ _ (wsk fun K40 hK40 => wrl ?_))
             iterate 2 refine sda A λa A↦?_
             refine qa (hK40 _ _ (wp_ret (hret _ _ (en2 A rfl (qf rfl) (qf rfl) ?_))))
             exact ⟨by unfold nmdX; rw [if_neg (of_decide_eq_false hb5), if_neg (of_decide_eq_false hb8), if_neg (of_decide_eq_false hb11), if_neg (of_decide_eq_false hb14), if_neg (of_decide_eq_false hb18), if_neg (of_decide_eq_false hb20), if_neg (of_decide_eq_false hb23), if_neg (of_decide_eq_false hb26), if_neg (of_decide_eq_false hb29), if_neg (of_decide_eq_false hb32), if_neg (of_decide_eq_false hb35), if_neg (of_decide_eq_false hb38)]; rfl, M.bel⟩
theorem jr {w0 w : World} {g p : Nat} {lg : Bool} {L : List UInt8} {T : List Ck} (hT : Tb w0) (hp : p ≤ L.length) (hl : L.length ≤ 1000000000) (hd0 : dotB (L.drop p) = true) (hM0 : Mg w0 w (.obj g (rC L p lg) :: T)) : Calls Tryz.prog 55 #[pA g 0] w fun e w' => e = .returned (bV true) ∧ Mg w0 w' (.obj g (rC L (p + 1) lg) :: T) := by
 have hd : decide ((L.drop p).take (tokN ((L.drop p).length + 1) (L.drop p)) = [46]) = true := hd0
 have hpf := dot_pre (of_decide_eq_true hd)
 have M : Mg w0 w (.obj g (rC L p lg) :: T) := hM0
 refine qr (l := [(0, pA g 0)]) Tryz.func55 rfl Tryz.ntmps55 rfl rfl ?_
 intro Q hret hnorm hP a A
 refine wsk fun K1 hK1 => wrl (sda A λa A↦?_)
 refine qa (hK1 _ _ (wsk fun K2 hK2 => wrl (sdm A λa A↦?_)))
 refine sct A (ef rfl rfl) (qz (p := p) (L := L) (T := (T)) (by omega) M) ?_
 rintro _ w4 ⟨rfl, hM3⟩
 replace M : Mg w0 w4 (.obj g (rC L p lg) :: T) := hM3
 refine ⟨_, rfl, ?_⟩
 intro a A
 refine gcl A M (ef rfl rfl) (token_any (l := L.drop p) (hT.below M.bel) (by rw [List.length_drop]; omega)) fun w6 hb5 M a A => ?_
 refine sdo (v := bV true) A (qb rfl rfl (fun w => (qe (a := (L.drop p).take (tokN ((L.drop p).length + 1) (L.drop p))) (b := [46]) Tryz.underlying9 w).trans (by rw [hd] <;> rfl))) λa A↦?_
 iterate 2 refine sdm A λa A↦?_
 have htl9 : 1 ≤ (L.drop p).length := (List.isPrefixOf_iff_prefix.1 hpf).length_le
 rw [List.length_drop] at htl9
 refine sct A (ef rfl rfl) (take_y (p := p) (L := L) (T := (T)) (by omega) (by omega) hpf M) ?_
 rintro _ w10 ⟨rfl, hM8⟩
 replace M : Mg w0 w10 (.obj g (rC L (p + 1) lg) :: T) := hM8
 refine ⟨_, rfl, ?_⟩
 intro a A
 refine sdk (v := bV true) A λa A↦?_
 refine sda A λa A↦?_
 refine qa (hK2 _ _ (wr1 hret A ?_))
 exact ⟨rfl, M⟩
theorem js {w0 w : World} {g p : Nat} {lg : Bool} {L : List UInt8} {T : List Ck} (hT : Tb w0) (hp : p ≤ L.length) (hl : L.length ≤ 1000000000) (hd0 : dotB (L.drop p) = false) (hM0 : Mg w0 w (.obj g (rC L p lg) :: T)) : Calls Tryz.prog 55 #[pA g 0] w fun e w' => e = .returned (bV false) ∧ Mg w0 w' (.obj g (rC L p lg) :: T) := by
 have hd : decide ((L.drop p).take (tokN ((L.drop p).length + 1) (L.drop p)) = [46]) = false := hd0
 
 have M : Mg w0 w (.obj g (rC L p lg) :: T) := hM0
 refine qr (l := [(0, pA g 0)]) Tryz.func55 rfl Tryz.ntmps55 rfl rfl ?_
 intro Q hret hnorm hP a A
 refine wsk fun K1 hK1 => wrl (sda A λa A↦?_)
 refine qa (hK1 _ _ (wsk fun K2 hK2 => wrl (sdm A λa A↦?_)))
 refine sct A (ef rfl rfl) (qz (p := p) (L := L) (T := (T)) (by omega) M) ?_
 rintro _ w4 ⟨rfl, hM3⟩
 replace M : Mg w0 w4 (.obj g (rC L p lg) :: T) := hM3
 refine ⟨_, rfl, ?_⟩
 intro a A
 refine gcl A M (ef rfl rfl) (token_any (l := L.drop p) (hT.below M.bel) (by rw [List.length_drop]; omega)) fun w6 hb5 M a A => ?_
 refine sdo (v := bV false) A (qb rfl rfl (fun w => (qe (a := (L.drop p).take (tokN ((L.drop p).length + 1) (L.drop p))) (b := [46]) Tryz.underlying9 w).trans (by rw [hd] <;> rfl))) λa A↦?_
 refine sdm A λa A↦?_
 iterate 2 refine qg A rfl rfl rfl λa A↦?_
 refine sdk (v := bV false) A λa A↦?_
 refine sda A λa A↦?_
 refine qa (hK2 _ _ (wr1 hret A ?_))
 exact ⟨rfl, M⟩
end Go.Proofs.YtclkfideaameoaaGreatDoor.G
namespace Go.Proofs.YtclkfideaameoaaGreatDoor.G
open Go.RowKit
theorem zn {P : Program} {Q : Exit → Act → World → Prop} {a : Act} {w : World} {c rest : Code} (l : Nat) (hf : findLabel c l = some rest) (h : c.wp P (Exit.jump l (fun a w => rest.wp P (Exit.noGoto Q) a w) Q) a w) : (Code.scope c).wp P Q a w :=
  wp_scope_jumps l _ (fun _ _ => 0) hf h fun a w hJ => wp_mono hJ fun e a w hq => by
    cases e with
    | goto l' => exact hq.elim
    | normal => exact hq
    | exit id => exact hq
    | ret => exact hq
    | panic ch => exact hq
    | outgrown => exact hq
end Go.Proofs.YtclkfideaameoaaGreatDoor.G
namespace Go.Proofs
open Go.Shelf
def Tryz.lays153_ren : Go.Shelf.Ren := ⟨fun | 153 => 51 | 152 => 71 | 226 => 72 | 227 => 73 | 228 => 74 | 137 => 105 | 119 => 67 | 224 => 106 | 225 => 107 | 217 => 133 | 266 => 152 | n => n, fun | 9 => 9 | 3 => 3 | 4 => 4 | 5 => 5 | 21 => 21 | 117 => 103 | 116 => 102 | 0 => 0 | 46 => 71 | 124 => 133 | n => n, fun | n => n⟩
theorem Tryz.lays153 : Go.Proofs.Lays.n153 Tryz.prog Tryz.lays153_ren := {
  mixed := by kernel_rfl
  f119 := Tryz.func67.trans (congrArg some (by kernel_rfl))
  f137 := Tryz.func105.trans (congrArg some (by kernel_rfl))
  f152 := Tryz.func71.trans (congrArg some (by kernel_rfl))
  f153 := Tryz.func51.trans (congrArg some (by kernel_rfl))
  f217 := Tryz.func133.trans (congrArg some (by kernel_rfl))
  f224 := Tryz.func106.trans (congrArg some (by kernel_rfl))
  f225 := Tryz.func107.trans (congrArg some (by kernel_rfl))
  f226 := Tryz.func72.trans (congrArg some (by kernel_rfl))
  f227 := Tryz.func73.trans (congrArg some (by kernel_rfl))
  f228 := Tryz.func74.trans (congrArg some (by kernel_rfl))
  f266 := Tryz.func152.trans (congrArg some (by kernel_rfl))
  t0 := Tryz.underlying0
  a0 := Tryz.isAgg0
  z0 := Tryz.sizeOf0
  v0 := Tryz.zeroValue0
  t3 := Tryz.underlying3
  a3 := Tryz.isAgg3
  z3 := Tryz.sizeOf3
  v3 := Tryz.zeroValue3
  t4 := Tryz.underlying4
  a4 := Tryz.isAgg4
  z4 := Tryz.sizeOf4
  v4 := Tryz.zeroValue4
  t5 := Tryz.underlying5
  a5 := Tryz.isAgg5
  z5 := Tryz.sizeOf5
  v5 := Tryz.zeroValue5
  t9 := Tryz.underlying9
  a9 := Tryz.isAgg9
  z9 := Tryz.sizeOf9
  v9 := Tryz.zeroValue9
  t21 := Tryz.underlying21
  a21 := Tryz.isAgg21
  z21 := Tryz.sizeOf21
  v21 := Tryz.zeroValue21
  t46 := Tryz.underlying71
  a46 := Tryz.isAgg71
  z46 := Tryz.sizeOf71
  v46 := Tryz.zeroValue71
  t116 := Tryz.underlying102
  a116 := Tryz.isAgg102
  z116 := Tryz.sizeOf102
  t117 := Tryz.underlying103
  a117 := Tryz.isAgg103
  z117 := Tryz.sizeOf103
  v117 := Tryz.zeroValue103
  t124 := Tryz.underlying133
  a124 := Tryz.isAgg133
  z124 := Tryz.sizeOf133
  v124 := Tryz.zeroValue133 }
end Go.Proofs
namespace Go.Proofs.YtclkfideaameoaaGreatDoor.C
open Go.RowKit Go.Shelf Go.Lib

def ln7 (r : Int) : Bool := decide (r = 10 ∨ r = 13 ∨ r = 133 ∨ r = 8232)
def lnN : Nat → List UInt8 → Nat
  | 0, _ => 0
  | f + 1, l => if l.isEmpty = true then 0 else if ln7 (((Lib.decodeL l).1 : Nat) : Int) = true then 0 else (Lib.decodeL l).2 + lnN f (l.drop (Lib.decodeL l).2)
def LnI (s : ByteArray) (pos : Nat) : Prop := ∃ f, s.size - pos ≤ f ∧ lnN s.size s.data.toList = pos + lnN f (s.data.toList.drop pos)
theorem LnI.zero (s : ByteArray) : LnI s 0 := ⟨s.size, by omega, by simp⟩
theorem kn {s : ByteArray} {pos : Nat} (hp : pos < s.size) : (s.data.toList.drop pos).isEmpty = false := by
  rw [List.isEmpty_eq_false_iff]
  intro h
  have := List.drop_eq_nil_iff.1 h
  rw [← Lib.size_eq] at this
  omega
theorem LnI.hit {s : ByteArray} {pos : Nat} (h : LnI s pos) (hp : pos < s.size) (hc : ln7 (((Utf8.decode s pos).1 : Nat) : Int) = true) : lnN s.size s.data.toList = pos := by
  obtain ⟨f, hf, e⟩ := h
  obtain ⟨k, rfl⟩ : ∃ k, f = k + 1 := ⟨f - 1, by omega⟩
  rw [e, lnN, if_neg (by rw [kn hp]; decide), Lib.decodeL_drop, if_pos hc, Nat.add_zero]
theorem LnI.step {s : ByteArray} {pos : Nat} (h : LnI s pos) (hp : pos < s.size) (hc : ln7 (((Utf8.decode s pos).1 : Nat) : Int) = false) : LnI s (pos + (Utf8.decode s pos).2) := by
  obtain ⟨f, hf, e⟩ := h
  obtain ⟨k, rfl⟩ : ∃ k, f = k + 1 := ⟨f - 1, by omega⟩
  have hw := Lib.decodeL_width (s.data.toList.drop pos)
  rw [Lib.decodeL_drop] at hw
  refine ⟨k, by omega, ?_⟩
  rw [e, lnN, if_neg (by rw [kn hp]; decide), Lib.decodeL_drop, if_neg (by rw [hc]; decide), List.drop_drop]
  omega
theorem qdd (f : Nat) : lnN f [] = 0 := by cases f <;> rfl
theorem LnI.over {s : ByteArray} {pos : Nat} (h : LnI s pos) (hp : ¬ pos < s.size) (hq : pos ≤ s.size) : lnN s.size s.data.toList = s.size := by
  obtain ⟨f, hf, e⟩ := h
  rw [e, List.drop_of_length_le (by rw [← Lib.size_eq]; omega), qdd]
  omega
theorem qbe (s : ByteArray) (pos : Nat) (hp : pos < s.size) : OkR (((Utf8.decode s pos).1 : Nat) : Int) := by
  have := G.ub (s.data.toList.drop pos)
  rw [Lib.decodeL_drop] at this
  unfold OkR
  omega
section
variable {P : Program} {ρ : Ren}
set_option maxRecDepth 1000000 in
theorem qfi (L : Lays.n227 P ρ) (hv116 : ∀ w, (zeroValue (ρ.t 116)).run P w = .ok (.agg (Array.replicate 256 (.bool false))) w) (hi116 : (P.info? (ρ.t 116)).map (·.size) = some 256) (chars : ByteArray) (hl : chars.data.toList = [10, 13, 194, 133, 226, 128, 168]) (w : World) :
    Calls P (ρ.f 227) #[.string chars] w fun e w' => e = .returned (.tuple #[.agg (Lib.setCells [10, 13]), .bool false]) ∧ w' = w.alloc (.cells (Lib.setCells [10, 13]) (ρ.t 116)) := by
  have hz : chars.size = 7 := by rw [Lib.size_eq, hl]; rfl
  have HA : Aside (chars.data.toList = [10, 13, 194, 133, 226, 128, 168]) := hl
  clear hl
  have t3 := L.t3; have a3 := L.a3; have z3 := L.z3; have v3 := L.v3
  have t4 := L.t4; have a4 := L.a4; have z4 := L.z4; have v4 := L.v4
  have t5 := L.t5; have a5 := L.a5; have z5 := L.z5; have v5 := L.v5
  have t9 := L.t9; have a9 := L.a9; have z9 := L.z9; have v9 := L.v9
  have t116 := L.t116
  go_enter L.f227, Body.n227_ntmps ρ
  go_wp2
  rw [← Lib.setCells_nil]
  go_loopg [4] 2 (fun g s4 wx => ∃ i : Nat, i + g = 2 ∧ s4 = .int .i64 i ∧ wx = w.alloc (.cells (Lib.setCells (([10, 13] : List UInt8).take i)) (ρ.t 116)))
  case atStart => exact ⟨0, by omega, rfl, rfl⟩
  case round =>
    obtain ⟨i, hig, rfl, rfl⟩ := hrel
    have hi : i < chars.size := by omega
    have hiz : (i : Int) < (chars.size : Int) := by omega
    obtain ⟨x, hx⟩ : ∃ x : UInt8, chars[i]'hi = x := ⟨_, rfl⟩
    have hxl : chars.data.toList[i]? = some x := by rw [← hx]; exact Lib.data_getElem? chars i hi
    cases gk with
    | zero =>
      obtain rfl : i = 2 := by omega
      obtain rfl : x = 194 := by rw [HA.out] at hxl; exact (Option.some.inj hxl).symm
      clear hxl
      have hx128 : ((128 : Int) ≤ (((194 : UInt8).toNat : Nat) : Int)) := by decide
      rw [show ([10, 13] : List UInt8).take 2 = [10, 13] from rfl]
      have hld := run_loadVar_new (P := P) w (ρ.t 116) (Lib.setCells [10, 13]) 256 (ρ.t 4) L.t116 (by rw [Lib.setCells_size]; exact hi116)
      have hsz := Lib.setCells_size [10, 13]
      have hlc := run_loadCellsFrom_new (P := P) w (ρ.t 116) (Lib.setCells [10, 13]) 256 hsz
      have hsc := run_storeCells_new (P := P) w (ρ.t 116) (Lib.setCells [10, 13]) (Lib.setCells [10, 13]) (by rw [hsz]; exact hi116) rfl (Lib.setCells_one _)
      obtain ⟨A, hA⟩ : ∃ A, Lib.setCells [10, 13] = A := ⟨_, rfl⟩
      rw [hA] at hld hsz hlc hsc ⊢
      go_wp2
      simp only [L.a116, L.z116, Result.andThen, ↓reduceIte, hlc]
      rw [Oper.upon_value]
      go_wp2
      simp only [L.z116, Result.andThen, ↓reduceIte, hsc]
      rw [Oper.upon_skip]
      go_wp2
      (try simp only [Exit.inBlock, Exit.then])
      refine bodyPost_ret (v := .tuple #[.agg A, .bool false]) ?_ rfl ⟨by rw [hA], by rw [hA]⟩
      rw [results_cell_tmp rfl]
      simp [asAddr, Result.andThen, hld]
    | succ g =>
      have hx128 : ¬ ((128 : Int) ≤ (x.toNat : Int)) := by
        rw [HA.out] at hxl
        match i, hxl with
        | 0, h => obtain rfl := Option.some.inj h; decide
        | 1, h => obtain rfl := Option.some.inj h; decide
        | n + 2, h => omega
      have hx256 : (x.toNat : Int) < 256 := by omega
      have hcell := Lib.setCells_at (([10, 13] : List UInt8).take i) x
      have Hx : Aside (([10, 13] : List UInt8)[i]? = some x) := by
        rw [HA.out] at hxl
        match i, hxl with
        | 0, h => exact h
        | 1, h => exact h
        | n + 2, h => omega
      clear hxl
      go_wp2
      go_roundg g
      case measure => omega
      case rel => exact ⟨i + 1, by omega, by first | rfl | simp, by rw [List.take_add_one, Hx.out]; simp only [Option.toList]; rw [Lib.setCells_snoc]⟩
set_option maxRecDepth 1000000 in
theorem ym (L : Lays.n153 P ρ) (hv116 : ∀ w, (zeroValue (ρ.t 116)).run P w = .ok (.agg (Array.replicate 256 (.bool false))) w) (hi116 : (P.info? (ρ.t 116)).map (·.size) = some 256) (s chars : ByteArray) (hl : chars.data.toList = [10, 13, 194, 133, 226, 128, 168]) (hir : ∀ (r : Int) (w : World), OkR r → Calls P (ρ.f 152) #[.string chars, .int .i32 r] w fun e w' => ∃ v : Int, e = .returned (.int .i64 v) ∧ decide (0 ≤ v) = ln7 r ∧ Below w.heap.size w w') (w : World) (h8 : s.size ≤ 8) (hs : s.size < 4294967281) :
    Calls P (ρ.f 153) #[.string s, .string chars] w fun e w' => (∃ v : Int, e = .returned (.int .i64 v) ∧ (v = ((lnN s.size s.data.toList : Nat) : Int) ∧ lnN s.size s.data.toList < s.size ∨ v = -1 ∧ lnN s.size s.data.toList = s.size)) ∧ Below w.heap.size w w' := by
  have hz : chars.size = 7 := by rw [Lib.size_eq, hl]; rfl
  have hemp : chars.toList.isEmpty = false := by rw [Lib.toList_data, hl]; rfl
  have hn1 : ((chars.size : Int) == 1) = false := beq_eq_false_iff_ne.2 (by omega)
  have h8z : decide ((8 : Int) < (s.size : Int)) = false := decide_eq_false (by omega)
  have HR : Aside (∀ (r : Int) (w : World), OkR r → Calls P (ρ.f 152) #[.string chars, .int .i32 r] w fun e w' => ∃ v : Int, e = .returned (.int .i64 v) ∧ decide (0 ≤ v) = ln7 r ∧ Below w.heap.size w w') := hir
  clear hir hl
  have t3 := L.t3; have a3 := L.a3; have z3 := L.z3; have v3 := L.v3
  have t4 := L.t4; have a4 := L.a4; have z4 := L.z4; have v4 := L.v4
  have t5 := L.t5; have a5 := L.a5; have z5 := L.z5; have v5 := L.v5
  have t9 := L.t9; have a9 := L.a9; have z9 := L.z9; have v9 := L.v9
  have t21 := L.t21; have a21 := L.a21; have z21 := L.z21; have v21 := L.v21
  have t116 := L.t116
  have e152 : ∀ args w, (callFunc (ρ.f 152) args).run P w = .ok (.enter (ρ.f 152) args) w := enters_of L.f152 (by kernel_rfl) rfl
  have e226 : ∀ args w, (callFunc (ρ.f 226) args).run P w = .ok (.enter (ρ.f 226) args) w := enters_of L.f226 (by kernel_rfl) rfl
  have e227 : ∀ args w, (callFunc (ρ.f 227) args).run P w = .ok (.enter (ρ.f 227) args) w := enters_of L.f227 (by kernel_rfl) rfl
  go_enter L.f153, Body.n153_ntmps ρ
  go_wp2_with (first
    | (go_at_fn (ρ.f 226); refine (Any.strings_shouldUseASCIISet { L with } _ _).mono ?_; rintro e w' ⟨rfl, hw⟩; rw [hw, h8z])
    | (go_at_fn (ρ.f 227); fail))
  go_loopw [9, 10] (fun _ _ wr => ∃ (pos : Nat), wr.heap[w.heap.size]? = some (.stringIter s pos) ∧ Below w.heap.size w wr ∧ LnI s pos ∧ pos ≤ s.size) (fun _ _ wr => s.size - wr.iterPos w.heap.size)
  case atStart =>
    refine ⟨0, ?_, ?_, LnI.zero s, Nat.zero_le _⟩
    · simpa using World.iter_heap w s 0
    · exact (Below.refl _ w).alloc (Nat.le_refl _) _
  case round =>
    obtain ⟨pos, hit, hbw, hno, hq⟩ := hrel
    have HN : Aside (LnI s pos) := hno
    clear hno
    have hsz : w.heap.size < wr.heap.size := (Array.getElem?_eq_some_iff.1 hit).1
    by_cases hp : pos < s.size
    · have hnx : ∀ ty, (Instr.next (.pointer (some ⟨w.heap.size, 0, none⟩)) true ty).run P wr = _ := fun ty => Lib.run_next_any_at wr w.heap.size s pos ty hit hp
      have hit2 := Lib.iterAt_heap wr w.heap.size s pos (pos + (Utf8.decode s pos).2) hit
      have hbw2 := Lib.below_iterAt hbw (k := w.heap.size) (by omega) s (pos + (Utf8.decode s pos).2)
      have HO : Aside (OkR (((Utf8.decode s pos).1 : Nat) : Int)) := qbe s pos hp
      have HH : Aside (ln7 (((Utf8.decode s pos).1 : Nat) : Int) = true → lnN s.size s.data.toList = pos) := fun h => HN.out.hit hp h
      have HS : Aside (ln7 (((Utf8.decode s pos).1 : Nat) : Int) = false → LnI s (pos + (Utf8.decode s pos).2)) := fun h => HN.out.step hp h
      have hle : pos + (Utf8.decode s pos).2 ≤ s.size := by
        have := Lib.decodeL_le (s.data.toList.drop pos) (by have := kn hp; intro h; rw [h] at this; cases this)
        rw [Lib.decodeL_drop, List.length_drop, ← Lib.size_eq] at this
        omega
      have hwd := Lib.decodeL_width (s.data.toList.drop pos)
      rw [Lib.decodeL_drop] at hwd
      generalize Utf8.decode s pos = d at hnx hit2 hbw2 HO HH HS hle hwd
      obtain ⟨c, wd⟩ := d
      dsimp only at hnx hit2 hbw2 HO HH HS hle hwd
      cases hc : ln7 ((c : Nat) : Int)
      · go_wp2_with (go_at_fn (ρ.f 152); refine (HR.out _ _ HO.out).mono ?_; rintro e w' ⟨v, rfl, hv, hbv⟩; rw [hc] at hv; have hv0 : ¬ ((0 : Int) ≤ v) := of_decide_eq_false hv)
        go_roundw
        case rel => exact ⟨pos + wd, heap_below hit2 hbv, hbw2.trans (hbv.mono hbw2.size), HS.out hc, hle⟩
        case measure =>
          simp only [World.iterPos, heap_below hit2 hbv, hit]
          omega
      · go_wp2_with (go_at_fn (ρ.f 152); refine (HR.out _ _ HO.out).mono ?_; rintro e w' ⟨v, rfl, hv, hbv⟩; rw [hc] at hv; have hv0 : (0 : Int) ≤ v := of_decide_eq_true hv)
        go_ret
        exact ⟨⟨_, rfl, .inl ⟨by rw [HH.out hc], by rw [HH.out hc]; exact hp⟩⟩, hbw2.trans (hbv.mono hbw2.size)⟩
    · have hnx : ∀ ty, (Instr.next (.pointer (some ⟨w.heap.size, 0, none⟩)) true ty).run P wr = _ := fun ty => Lib.run_next_end_at wr w.heap.size s pos ty hit hp
      go_wp2
      go_ret
      exact ⟨⟨_, rfl, .inr ⟨rfl, HN.out.over hp hq⟩⟩, hbw⟩
set_option maxRecDepth 1000000 in
theorem ul (L : Lays.n153 P ρ) (hv116 : ∀ w, (zeroValue (ρ.t 116)).run P w = .ok (.agg (Array.replicate 256 (.bool false))) w) (hi116 : (P.info? (ρ.t 116)).map (·.size) = some 256) (s chars : ByteArray) (hl : chars.data.toList = [10, 13, 194, 133, 226, 128, 168]) (hir : ∀ (r : Int) (w : World), OkR r → Calls P (ρ.f 152) #[.string chars, .int .i32 r] w fun e w' => ∃ v : Int, e = .returned (.int .i64 v) ∧ decide (0 ≤ v) = ln7 r ∧ Below w.heap.size w w') (w : World) (h8 : 8 < s.size) (hs : s.size < 4294967281) :
    Calls P (ρ.f 153) #[.string s, .string chars] w fun e w' => (∃ v : Int, e = .returned (.int .i64 v) ∧ (v = ((lnN s.size s.data.toList : Nat) : Int) ∧ lnN s.size s.data.toList < s.size ∨ v = -1 ∧ lnN s.size s.data.toList = s.size)) ∧ Below w.heap.size w w' := by
  have hM := qfi { L with } hv116 hi116 chars hl w
  have hsc : (storeCells ⟨w.heap.size + 1, 0, none⟩ (Lib.setCells [10, 13]).toList 0).run P ((w.alloc (.cells (Lib.setCells [10, 13]) (ρ.t 116))).alloc (.cells (Array.replicate 256 (.bool false)) (ρ.t 116))) = .ok () ((w.alloc (.cells (Lib.setCells [10, 13]) (ρ.t 116))).alloc (.cells (Lib.setCells [10, 13]) (ρ.t 116))) := by
    have := run_storeCells_new (P := P) (w.alloc (.cells (Lib.setCells [10, 13]) (ρ.t 116))) (ρ.t 116) (Array.replicate 256 (.bool false)) (Lib.setCells [10, 13]) (by rw [Lib.setCells_size]; exact hi116) (by rw [Lib.setCells_size, Array.size_replicate]) (Lib.setCells_one _)
    simpa using this
  obtain ⟨A, hA⟩ : ∃ A, Lib.setCells [10, 13] = A := ⟨_, rfl⟩
  have hsz : A.size = 256 := by rw [← hA]; exact Lib.setCells_size _
  rw [hA] at hM hsc
  clear hA
  have hz : chars.size = 7 := by rw [Lib.size_eq, hl]; rfl
  have hemp : chars.toList.isEmpty = false := by rw [Lib.toList_data, hl]; rfl
  have hn1 : ((chars.size : Int) == 1) = false := beq_eq_false_iff_ne.2 (by omega)
  have h8z : decide ((8 : Int) < (s.size : Int)) = true := decide_eq_true (by omega)
  have HR : Aside (∀ (r : Int) (w : World), OkR r → Calls P (ρ.f 152) #[.string chars, .int .i32 r] w fun e w' => ∃ v : Int, e = .returned (.int .i64 v) ∧ decide (0 ≤ v) = ln7 r ∧ Below w.heap.size w w') := hir
  clear hir hl
  have t3 := L.t3; have a3 := L.a3; have z3 := L.z3; have v3 := L.v3
  have t4 := L.t4; have a4 := L.a4; have z4 := L.z4; have v4 := L.v4
  have t5 := L.t5; have a5 := L.a5; have z5 := L.z5; have v5 := L.v5
  have t9 := L.t9; have a9 := L.a9; have z9 := L.z9; have v9 := L.v9
  have t21 := L.t21; have a21 := L.a21; have z21 := L.z21; have v21 := L.v21
  have t116 := L.t116
  have e152 : ∀ args w, (callFunc (ρ.f 152) args).run P w = .ok (.enter (ρ.f 152) args) w := enters_of L.f152 (by kernel_rfl) rfl
  have e226 : ∀ args w, (callFunc (ρ.f 226) args).run P w = .ok (.enter (ρ.f 226) args) w := enters_of L.f226 (by kernel_rfl) rfl
  have e227 : ∀ args w, (callFunc (ρ.f 227) args).run P w = .ok (.enter (ρ.f 227) args) w := enters_of L.f227 (by kernel_rfl) rfl
  go_enter L.f153, Body.n153_ntmps ρ
  go_wp2_with (first
    | (go_at_fn (ρ.f 226); refine (Any.strings_shouldUseASCIISet { L with } _ _).mono ?_; rintro e w' ⟨rfl, hw⟩; rw [hw, h8z])
    | (go_at_fn (ρ.f 227); refine hM.mono ?_; rintro e w' ⟨rfl, hw⟩; rw [hw]))
  simp only [L.z116, Result.andThen, ↓reduceIte, hsc]
  rw [Oper.upon_skip]
  go_wp2
  clear hM hsc
  go_loopw [9, 10] (fun _ _ wr => ∃ (pos : Nat), wr.heap[(w.heap.size + 1 + 1)]? = some (.stringIter s pos) ∧ Below w.heap.size w wr ∧ LnI s pos ∧ pos ≤ s.size) (fun _ _ wr => s.size - wr.iterPos (w.heap.size + 1 + 1))
  case atStart =>
    refine ⟨0, ?_, ?_, LnI.zero s, Nat.zero_le _⟩
    · rw [show w.heap.size + 1 + 1 = ((w.alloc (.cells A (ρ.t 116))).alloc (.cells A (ρ.t 116))).heap.size from by rw [World.alloc, World.alloc, Array.size_push, Array.size_push]]
      exact World.iter_heap _ s 0
    · exact (((Below.refl _ w).alloc (Nat.le_refl _) _).alloc (by rw [World.alloc, Array.size_push]; omega) _).alloc (by rw [World.alloc, World.alloc, Array.size_push, Array.size_push]; omega) _
  case round =>
    obtain ⟨pos, hit, hbw, hno, hq⟩ := hrel
    have HN : Aside (LnI s pos) := hno
    clear hno
    have hsz : (w.heap.size + 1 + 1) < wr.heap.size := (Array.getElem?_eq_some_iff.1 hit).1
    by_cases hp : pos < s.size
    · have hnx : ∀ ty, (Instr.next (.pointer (some ⟨(w.heap.size + 1 + 1), 0, none⟩)) true ty).run P wr = _ := fun ty => Lib.run_next_any_at wr (w.heap.size + 1 + 1) s pos ty hit hp
      have hit2 := Lib.iterAt_heap wr (w.heap.size + 1 + 1) s pos (pos + (Utf8.decode s pos).2) hit
      have hbw2 := Lib.below_iterAt hbw (k := (w.heap.size + 1 + 1)) (by omega) s (pos + (Utf8.decode s pos).2)
      have HO : Aside (OkR (((Utf8.decode s pos).1 : Nat) : Int)) := qbe s pos hp
      have HH : Aside (ln7 (((Utf8.decode s pos).1 : Nat) : Int) = true → lnN s.size s.data.toList = pos) := fun h => HN.out.hit hp h
      have HS : Aside (ln7 (((Utf8.decode s pos).1 : Nat) : Int) = false → LnI s (pos + (Utf8.decode s pos).2)) := fun h => HN.out.step hp h
      have hle : pos + (Utf8.decode s pos).2 ≤ s.size := by
        have := Lib.decodeL_le (s.data.toList.drop pos) (by have := kn hp; intro h; rw [h] at this; cases this)
        rw [Lib.decodeL_drop, List.length_drop, ← Lib.size_eq] at this
        omega
      have hwd := Lib.decodeL_width (s.data.toList.drop pos)
      rw [Lib.decodeL_drop] at hwd
      generalize Utf8.decode s pos = d at hnx hit2 hbw2 HO HH HS hle hwd
      obtain ⟨c, wd⟩ := d
      dsimp only at hnx hit2 hbw2 HO HH HS hle hwd
      cases hc : ln7 ((c : Nat) : Int)
      · go_wp2_with (go_at_fn (ρ.f 152); refine (HR.out _ _ HO.out).mono ?_; rintro e w' ⟨v, rfl, hv, hbv⟩; rw [hc] at hv; have hv0 : ¬ ((0 : Int) ≤ v) := of_decide_eq_false hv)
        go_roundw
        case rel => exact ⟨pos + wd, heap_below hit2 hbv, hbw2.trans (hbv.mono hbw2.size), HS.out hc, hle⟩
        case measure =>
          simp only [World.iterPos, heap_below hit2 hbv, hit]
          omega
      · go_wp2_with (go_at_fn (ρ.f 152); refine (HR.out _ _ HO.out).mono ?_; rintro e w' ⟨v, rfl, hv, hbv⟩; rw [hc] at hv; have hv0 : (0 : Int) ≤ v := of_decide_eq_true hv)
        go_ret
        exact ⟨⟨_, rfl, .inl ⟨by rw [HH.out hc], by rw [HH.out hc]; exact hp⟩⟩, hbw2.trans (hbv.mono hbw2.size)⟩
    · have hnx : ∀ ty, (Instr.next (.pointer (some ⟨(w.heap.size + 1 + 1), 0, none⟩)) true ty).run P wr = _ := fun ty => Lib.run_next_end_at wr (w.heap.size + 1 + 1) s pos ty hit hp
      go_wp2
      go_ret
      exact ⟨⟨_, rfl, .inr ⟨rfl, HN.out.over hp hq⟩⟩, hbw⟩
end
def S7 : ByteArray := ⟨#[10, 13, 194, 133, 226, 128, 168]⟩
def At7 (pos : Nat) : Prop := pos = 0 ∨ pos = 1 ∨ pos = 2 ∨ pos = 4 ∨ pos = 7
theorem at7 (pos : Nat) (h : At7 pos) (hp : pos < S7.size) : (((Utf8.decode S7 pos).1 : Nat) : Int) ≠ 65533 ∧ At7 (pos + (Utf8.decode S7 pos).2) ∧ 1 ≤ (Utf8.decode S7 pos).2 := by
  rcases h with rfl | rfl | rfl | rfl | rfl
  · exact ⟨by decide +kernel, .inr (.inl (by decide +kernel)), by decide +kernel⟩
  · exact ⟨by decide +kernel, .inr (.inr (.inl (by decide +kernel))), by decide +kernel⟩
  · exact ⟨by decide +kernel, .inr (.inr (.inr (.inl (by decide +kernel)))), by decide +kernel⟩
  · exact ⟨by decide +kernel, .inr (.inr (.inr (.inr (by decide +kernel)))), by decide +kernel⟩
  · exact absurd hp (by decide)
set_option maxRecDepth 1000000 in
theorem irune_err7 (w : World) : Calls Tryz.prog 71 #[.string S7, .int .i32 65533] w fun e w' => e = .returned (.int .i64 (-1)) ∧ Below w.heap.size w w' := by
  have HA : Aside (∀ (pos : Nat), At7 pos → pos < S7.size → (((Utf8.decode S7 pos).1 : Nat) : Int) ≠ 65533 ∧ At7 (pos + (Utf8.decode S7 pos).2) ∧ 1 ≤ (Utf8.decode S7 pos).2) := at7
  generalize S7 = s at HA
  go_enter Tryz.func71, Tryz.ntmps71
  go_wp2
  go_loopw [] (fun wr => ∃ (pos : Nat), wr.heap[w.heap.size]? = some (.stringIter s pos) ∧ Below w.heap.size w wr ∧ At7 pos) (fun wr => s.size - wr.iterPos w.heap.size)
  case atStart =>
    refine ⟨0, ?_, (Below.refl _ w).alloc (Nat.le_refl _) _, .inl rfl⟩
    simpa using World.iter_heap w s 0
  case round =>
    obtain ⟨pos, hit, hbw, hat⟩ := hrel
    have hsz : w.heap.size < wr.heap.size := (Array.getElem?_eq_some_iff.1 hit).1
    by_cases hp : pos < s.size
    · have hnx : ∀ ty, (Instr.next (.pointer (some ⟨w.heap.size, 0, none⟩)) true ty).run Tryz.prog wr = _ := fun ty => Lib.run_next_any_at wr w.heap.size s pos ty hit hp
      obtain ⟨hd, ha2, hw1⟩ := HA.out pos hat hp
      have hit2 := Lib.iterAt_heap wr w.heap.size s pos (pos + (Utf8.decode s pos).2) hit
      have hbw2 := Lib.below_iterAt hbw (k := w.heap.size) (by omega) s (pos + (Utf8.decode s pos).2)
      generalize Utf8.decode s pos = d at hnx hit2 hbw2 hd ha2 hw1
      obtain ⟨c, wd⟩ := d
      dsimp only at hnx hit2 hbw2 hd ha2 hw1
      have hq : (((c : Nat) : Int) == 65533) = false := beq_eq_false_iff_ne.2 hd
      have HB : Aside (At7 (pos + wd)) := ha2
      clear hat ha2 hd
      go_wp2
      go_roundw
      case rel => exact ⟨pos + wd, hit2, hbw2, HB.out⟩
      case measure =>
        simp only [World.iterPos, hit2, hit]
        omega
    · have hnx : ∀ ty, (Instr.next (.pointer (some ⟨w.heap.size, 0, none⟩)) true ty).run Tryz.prog wr = _ := fun ty => Lib.run_next_end_at wr w.heap.size s pos ty hit hp
      clear hat
      go_wp2
      go_ret
      exact ⟨rfl, hbw⟩
theorem ix7 : ∀ k : Nat, k < 128 → decide (0 ≤ Lib.indexByte S7.data.toList (k : Int).toNat.toUInt8) = ln7 k := by decide +kernel
theorem iany7 (s : ByteArray) (hir : ∀ (r : Int) (w : World), OkR r → Calls Tryz.prog 71 #[.string S7, .int .i32 r] w fun e w' => ∃ v : Int, e = .returned (.int .i64 v) ∧ decide (0 ≤ v) = ln7 r ∧ Below w.heap.size w w') (w : World) (hs : s.size < 4294967281) :
    Calls Tryz.prog 51 #[.string s, .string S7] w fun e w' => (∃ v : Int, e = .returned (.int .i64 v) ∧ (v = ((lnN s.size s.data.toList : Nat) : Int) ∧ lnN s.size s.data.toList < s.size ∨ v = -1 ∧ lnN s.size s.data.toList = s.size)) ∧ Below w.heap.size w w' := by
  by_cases h8 : 8 < s.size
  · exact ul Tryz.lays153 (fun w => by kernel_rfl) (by kernel_rfl) s S7 rfl hir w h8 hs
  · exact ym Tryz.lays153 (fun w => by kernel_rfl) (by kernel_rfl) s S7 rfl hir w (by omega) hs
end Go.Proofs.YtclkfideaameoaaGreatDoor.C
namespace Go.Proofs.YtclkfideaameoaaGreatDoor.G
open Go.RowKit
theorem jm {W : World} {s : ByteArray} {z : Int} (hE : Env W) (hs : s.size ≤ 140737488351232) (h0 : 0 ≤ z) (h1 : z ≤ 255) : Calls Tryz.prog 5 #[.string s, .int .u8 z] W fun e w' => e = .returned (bV true) ∧ Below W.heap.size W w' := by
 obtain ⟨k, rfl⟩ := Int.eq_ofNat_of_zero_le h0
 have h := blanks_any (L := s.data.toList) (k := k) hE (by rw [Array.length_toList]; exact Nat.le_trans hs (by decide)) (by omega)
 have e : tx s.data.toList = s := xj s
 rwa [e] at h
end Go.Proofs.YtclkfideaameoaaGreatDoor.G
namespace Go.Proofs.YtclkfideaameoaaGreatDoor.G
open Go.RowKit
set_option maxRecDepth 100000
theorem RdA_is1_3 : Is1 Tryz.prog 3 := ⟨⟨_, Tryz.underlying3, rfl⟩, by kernel_rfl⟩
theorem RdA_is1_9 : Is1 Tryz.prog 9 := ⟨⟨_, Tryz.underlying9, rfl⟩, by kernel_rfl⟩
theorem RdA_fld_50_0 : FieldAt Tryz.prog 50 0 0 := ⟨_, _, Tryz.underlying50, rfl, rfl, by kernel_rfl⟩
theorem RdA_fld_50_1 : FieldAt Tryz.prog 50 1 1 := ⟨_, _, Tryz.underlying50, rfl, rfl, by kernel_rfl⟩
def flt : List PanicEntry := [{ v := .iface 47 (.agg #[]), recovered := false }]
theorem zy {P : Program} {w : World} {l : List (Nat × Value)} {dst : Option Tmp} {ty t : TypeId} {pos : String} {after : Array Edge} {guard : Option (Nat × Bool)} {x : Operand} {v : Value} (ht : P.concrete t = true) (hx : ev l x = some v) : Does P l ⟨dst, .makeInterface t x, ty, pos, after, guard⟩ w (.iface t v) w := fun ρ h => by
 simp [execOp, h x _ hx, run_makeInterface w t v ht]
theorem jn {w : World} : Calls Tryz.prog 23 #[bV true] w fun e w' => e = .returned (.tuple #[]) ∧ Below w.heap.size w w' := by
 have M : Mg w w ([]) := Mg.start w
 refine qr (l := [(0, bV true)]) Tryz.func23 rfl Tryz.ntmps23 rfl rfl ?_
 intro Q hret hnorm hP a A
 refine wsk fun K1 hK1 => wrl (sdm A λa A↦?_)
 refine sdo (v := bV false) A (zm rfl zr) λa A↦?_
 refine qa (hK1 _ _ (cf A ?_))
 refine wp_skip (hnorm _ _ (xk (v := .tuple #[]) A rfl .nil rfl ?_))
 exact ⟨rfl, M.bel⟩
theorem zw {w : World} : Calls Tryz.prog 23 #[bV false] w fun e w' => e = .panicked flt ∧ Below w.heap.size w w' := by
 have M : Mg w w ([]) := Mg.start w
 refine zx (l := [(0, bV false)]) Tryz.func23 rfl Tryz.ntmps23 rfl rfl ?_
 intro Q hret hnorm hP hX a A
 refine wsk fun K1 hK1 => wrl (sdm A λa A↦?_)
 refine sdo (v := bV true) A (zm rfl zr) λa A↦?_
 refine qa (hK1 _ _ (ct A ?_))
 refine wrl (sdo (v := .agg #[]) A (jl rfl (fun w => by kernel_rfl)) λa A↦?_)
 refine sdo (v := .iface 47 (.agg #[])) A (zy (by kernel_rfl) rfl) λa A↦?_
 refine jp (v := .iface 47 (.agg #[])) A rfl (fun ρ h => by simp only [execOp, h (.tmp 5) _ rfl]; rfl) ?_
 exact hX _ _ _ _ _ A ⟨rfl, M.bel⟩
theorem qz {w0 w : World} {g p : Nat} {lg : Bool} {L : List UInt8} {T : List Ck} (hp : p ≤ L.length) (hM0 : Mg w0 w (.obj g (rC L p lg) :: T)) : Calls Tryz.prog 21 #[pA g 0] w fun e w' => e = .returned (.string (tx (L.drop p))) ∧ Mg w0 w' (.obj g (rC L p lg) :: T) := by
 have M : Mg w0 w (.obj g (rC L p lg) :: T) := hM0
 refine qr (l := [(0, pA g 0)]) Tryz.func21 rfl Tryz.ntmps21 rfl rfl ?_
 intro Q hret hnorm hP a A
 refine wsk fun K1 hK1 => wrl (sda A λa A↦?_)
 refine qa (hK1 _ _ (wsk fun K2 hK2 => zi (S := fun w1 => Mg w0 w1 (.obj g (rC L p lg) :: [])) (by kernel_rfl) ?_))
 replace M := M.drew
 refine amv A 0 rfl hP (M.sub (cc ns)) λa A↦?_
 refine atk A 1 rfl hP (M.sub (cc ns)) (λ_ M↦zf rfl) λa A↦?_
 refine atk (v := pA g 0) A 2 rfl hP (M.sub (cc ns)) (λ_ M↦qj RdA_fld_50_0 rfl rfl) λa A↦?_
 refine atk A 3 rfl hP (M.sub (cc ns)) (λ_ M↦zt M RdA_is1_9 rfl 0 rfl rfl) λa A↦?_
 refine amv A 4 rfl hP (M.sub (cc ns)) λa A↦?_
 refine atk A 5 rfl hP (M.sub (cc ns)) (λ_ M↦zf rfl) λa A↦?_
 refine atk (v := pA g 1) A 6 rfl hP (M.sub (cc ns)) (λ_ M↦qj RdA_fld_50_1 rfl rfl) λa A↦?_
 refine atk A 7 rfl hP (M.sub (cc ns)) (λ_ M↦zt M RdA_is1_3 rfl 0 rfl rfl) λa A↦?_
 refine atk (v := .string ((tx (L.drop p)))) A 8 rfl hP (M.sub (cc ns)) (λ_ M↦qs (s := L) (p := p) Tryz.underlying9 rfl rfl rfl (by omega)) λa A↦?_
 refine atk A 9 rfl hP (M.sub (cc ns)) (λ_ M↦zd rfl) λa A↦?_
 refine qy (by kernel_rfl) ?_
 refine hK2 _ _ (wr1 hret A ?_)
 exact ⟨rfl, M⟩
end Go.Proofs.YtclkfideaameoaaGreatDoor.G
∧ Mg w0 w' (.obj g (rC L p lg) :: T) := by
 have M : Mg w0 w (.obj g (rC L p lg) :: T) := hM0
 refine qr (l := [(0, pA g 0), (1, .string ((tx t)))]) Tryz.func32 rfl Tryz.ntmps32 rfl rfl ?_
 intro Q hret hnorm hP a A
 refine wsk fun K1 hK1 => wrl (sda A λa A↦?_)
 refine qa (hK1 _ _ (wsk fun K2 hK2 => wsk fun K3 hK3 => wrl (sdm A λa A↦?_)))
 refine sct A (ef rfl rfl) (qz (p := p) (L := L) (T := (T)) (by omega) M) ?_
 rintro _ w5 ⟨rfl, hM4⟩
 replace M : Mg w0 w5 (.obj g (rC L p lg) :: T) := hM4
 refine ⟨_, rfl, ?_⟩
 intro a A
 refine sdm A λa A↦?_
 refine gcl A M (ef rfl rfl) ((hp_as hh)) fun w7 hb6 M a A => ?_
 refine sdo (v := bV true) A (zm rfl zr) λa A↦?_
 refine qa (hK3 _ _ (ct A ?_))
 refine wsk fun K8 hK8 => wrl (sda A λa A↦?_)
 refine qa (hK8 _ _ (wr1 hret A ?_))
 exact ⟨rfl, M⟩
theorem xa {w0 w : World} {g p : Nat} {lg : Bool} {L : List UInt8} {T : List Ck} (hT : Tb w0) (hp : p ≤ L.length) (hl : L.length ≤ 1000000000) (hne : L.drop p ≠ []) (hM0 : Mg w0 w (.obj g (rC L p lg) :: T)) : Calls Tryz.prog 53 #[pA g 0] w fun e w' => e = .returned (.int .i32 (((dcX (L.drop p)).1 : Nat) : Int)) ∧ Mg w0 w' (.obj g (rC L (p + (dcX (L.drop p)).2) lg) :: T) := by
 obtain ⟨hw1, hw2⟩ := dcX_wide hne
 rw [List.length_drop] at hw2
 have M : Mg w0 w (.obj g (rC L p lg) :: T) := hM0
 refine qr (l := [(0, pA g 0)]) Tryz.func53 rfl Tryz.ntmps53 rfl rfl ?_
 intro Q hret hnorm hP a A
 refine wsk fun K1 hK1 => wrl (sda A λa A↦?_)
 refine qa (hK1 _ _ (wsk fun K2 hK2 => wrl (sdm A λa A↦?_)))
 refine sct A (ef rfl rfl) (qz (p := p) (L := L) (T := (T)) (by omega) M) ?_
 rintro _ w4 ⟨rfl, hM3⟩
 replace M : Mg w0 w4 (.obj g (rC L p lg) :: T) := hM3
 refine ⟨_, rfl, ?_⟩
 intro a A
 refine gcl A M (ef rfl rfl) (dc_any (l := L.drop p) (hT.below M.bel)) fun w6 hb5 M a A => ?_
 refine sdm A λa A↦?_
 iterate 2 refine sdo A (qp (vs := [.int .i32 ((((dcX (L.drop p)).1 : Nat) : Int)), iV ((((dcX (L.drop p)).2 : Nat) : Int))]) rfl rfl) λa A↦?_
 iterate 2 refine sda A λa A↦?_
 refine qa (hK2 _ _ (wsk fun K7 hK7 => wrl (sdm A λa A↦?_)))
 refine sdo (v := bV true) A (qb rfl rfl (fun w => (qx w).trans (by rw [show (decide (0 < (((dcX (L.drop p)).2 : Nat) : Int))) = true from (decide_eq_true (by omega))]))) λa A↦?_
 refine gcl A M (ef rfl rfl) (jn) fun w9 hb8 M a A => ?_
 refine qa (hK7 _ _ (wsk fun K10 hK10 => wrl (sdm A λa A↦?_)))
 refine sdo A (zf rfl) λa A↦?_
 refine sdo (v := pA g 1) A (qj RdB_fld_50_1 rfl rfl) λa A↦?_
 refine sdo A (zt M RdB_is1_3 rfl 0 rfl rfl) λa A↦?_
 refine sdm A λa A↦?_
 refine sdo (v := iV (((p + (dcX (L.drop p)).2 : Nat) : Int))) A (qb rfl rfl (ar_add ((in_i64 (by omega) (by omega)).trans (by omega)))) λa A↦?_
 refine sdo A (zf rfl) λa A↦?_
 refine sdo (v := pA g 1) A (qj RdB_fld_50_1 rfl rfl) λa A↦?_
 refine jz (L' := (.obj g (rC L (p + (dcX (L.drop p)).2) lg) :: T)) A M rfl rfl (jy rfl rfl rfl (by kernel_rfl) M 0 rfl rfl rfl) 0 rfl rfl rfl ?_
 intro w11 M
 refine qa (hK10 _ _ (wsk fun K12 hK12 => wrl (sdm A λa A↦?_)))
 refine sda A λa A↦?_
 refine qa (hK12 _ _ (wr1 hret A ?_))
 exact ⟨rfl, M⟩
theorem jt {w0 w : World} {g p : Nat} {lg : Bool} {L : List UInt8} {T : List Ck} (hT : Tb w0) (hp : p ≤ L.length) (hl : L.length ≤ 1000000000) (hne : L.drop p = []) (hM0 : Mg w0 w (.obj g (rC L p lg) :: T)) : Calls Tryz.prog 53 #[pA g 0] w fun e w' => e = .panicked flt ∧ Mg w0 w' (.obj g (rC L p lg) :: T) := by
 have hw1 : (dcX (L.drop p)).2 = 0 := by rw [hne]; rfl
 have M : Mg w0 w (.obj g (rC L p lg) :: T) := hM0
 refine zx (l := [(0, pA g 0)]) Tryz.func53 rfl Tryz.ntmps53 rfl rfl ?_
 intro Q hret hnorm hP hX a A
 refine wsk fun K1 hK1 => wrl (sda A λa A↦?_)
 refine qa (hK1 _ _ (wsk fun K2 hK2 => wrl (sdm A λa A↦?_)))
 refine sct A (ef rfl rfl) (qz (p := p) (L := L) (T := (T)) (by omega) M) ?_
 rintro _ w4 ⟨rfl, hM3⟩
 replace M : Mg w0 w4 (.obj g (rC L p lg) :: T) := hM3
 refine ⟨_, rfl, ?_⟩
 intro a A
 refine gcl A M (ef rfl rfl) (dc_any (l := L.drop p) (hT.below M.bel)) fun w6 hb5 M a A => ?_
 refine sdm A λa A↦?_
 iterate 2 refine sdo A (qp (vs := [.int .i32 ((((dcX (L.drop p)).1 : Nat) : Int)), iV ((((dcX (L.drop p)).2 : Nat) : Int))]) rfl rfl) λa A↦?_
 iterate 2 refine sda A λa A↦?_
 refine qa (hK2 _ _ (wsk fun K7 hK7 => wrl (sdm A λa A↦?_)))
 refine sdo (v := bV false) A (qb rfl rfl (fun w => (qx w).trans (by rw [show (decide (0 < (((dcX (L.drop p)).2 : Nat) : Int))) = false from (decide_eq_false (by omega))]))) λa A↦?_
 refine zq A rfl rfl rfl (ef rfl rfl) (zw) ?_
 rintro _ w9 ⟨rfl, hp10⟩
 exact .inl ⟨_, rfl, hX _ _ _ _ _ A (⟨rfl, M.call hp10⟩)⟩
end Go.Proofs.YtclkfideaameoaaGreatDoor.G
true) A λa A↦?_
     refine sda A λa A↦?_
     refine qa (hK2 _ _ (wr1 hret A ?_))
     exact ⟨by unfold isHx; rw [hb3, hb4, hb5, hb6]; rfl, M.bel⟩
    ·
     have hb6' := of_decide_eq_false hb6
     refine sdc A qn hb6 λa A↦?_
     iterate 2 refine sdk (v := bV false) A λa A↦?_
     iterate 2 refine sdm A λa A↦?_
     rcases tf (decide (65 ≤ ((b.toNat : Nat) : Int))) with hb7 | hb7
     ·
      have hb7' := of_decide_eq_true hb7
      refine sdc A ql hb7 λa A↦?_
      iterate 2 refine sdm A λa A↦?_
      rcases tf (decide (((b.toNat : Nat) : Int) ≤ 70)) with hb8 | hb8
      ·
       have hb8' := of_decide_eq_true hb8
       refine sdc A qn hb8 λa A↦?_
       iterate 2 refine sdk (v := bV true) A λa A↦?_
       refine sda A λa A↦?_
       refine qa (hK2 _ _ (wr1 hret A ?_))
       exact ⟨by unfold isHx; rw [hb3, hb4, hb5, hb6, hb7, hb8]; rfl, M.bel⟩
      ·
       have hb8' := of_decide_eq_false hb8
       refine sdc A qn hb8 λa A↦?_
       iterate 2 refine sdk (v := bV false) A λa A↦?_
       refine sda A λa A↦?_
       refine qa (hK2 _ _ (wr1 hret A ?_))
       exact ⟨by unfold isHx; rw [hb3, hb4, hb5, hb6, hb7, hb8]; rfl, M.bel⟩
     ·
      have hb7' := of_decide_eq_false hb7
      refine sdc A ql hb7 λa A↦?_
      refine sdm A λa A↦?_
      iterate 2 refine qg A rfl rfl rfl λa A↦?_
      iterate 2 refine sdk (v := bV false) A λa A↦?_
      refine sda A λa A↦?_
      refine qa (hK2 _ _ (wr1 hret A ?_))
      exact ⟨by unfold isHx; rw [hb3, hb4, hb5, hb6, hb7]; rfl, M.bel⟩
   ·
    have hb5' := of_decide_eq_false hb5
    refine sdc A ql hb5 λa A↦?_
    refine sdm A λa A↦?_
    iterate 2 refine qg A rfl rfl rfl λa A↦?_
    iterate 2 refine sdk (v := bV false) A λa A↦?_
    iterate 2 refine sdm A λa A↦?_
    rcases tf (decide (65 ≤ ((b.toNat : Nat) : Int))) with hb9 | hb9
    ·
     have hb9' := of_decide_eq_true hb9
     refine sdc A ql hb9 λa A↦?_
     iterate 2 refine sdm A λa A↦?_
     rcases tf (decide (((b.toNat : Nat) : Int) ≤ 70)) with hb10 | hb10
     ·
      have hb10' := of_decide_eq_true hb10
      refine sdc A qn hb10 λa A↦?_
      iterate 2 refine sdk (v := bV true) A λa A↦?_
      refine sda A λa A↦?_
      refine qa (hK2 _ _ (wr1 hret A ?_))
      exact ⟨by unfold isHx; rw [hb3, hb4, hb5, hb9, hb10]; rfl, M.bel⟩
     ·
      have hb10' := of_decide_eq_false hb10
      refine sdc A qn hb10 λa A↦?_
      iterate 2 refine sdk (v := bV false) A λa A↦?_
      refine sda A λa A↦?_
      refine qa (hK2 _ _ (wr1 hret A ?_))
      exact ⟨by unfold isHx; rw [hb3, hb4, hb5, hb9, hb10]; rfl, M.bel⟩
    ·
     have hb9' := of_decide_eq_false hb9
     refine sdc A ql hb9 λa A↦?_
     refine sdm A λa A↦?_
     iterate 2 refine qg A rfl rfl rfl λa A↦?_
     iterate 2 refine sdk (v := bV false) A λa A↦?_
     refine sda A λa A↦?_
     refine qa (hK2 _ _ (wr1 hret A ?_))
     exact ⟨by unfold isHx; rw [hb3, hb4, hb5, hb9]; rfl, M.bel⟩
 ·
  have hb3' := of_decide_eq_false hb3
  refine sdc A ql hb3 λa A↦?_
  refine sdm A λa A↦?_
  iterate 2 refine qg A rfl rfl rfl λa A↦?_
  refine sdk (v := bV false) A λa A↦?_
  iterate 2 refine sdm A λa A↦?_
  rcases tf (decide (97 ≤ ((b.toNat : Nat) : Int))) with hb11 | hb11
  ·
   have hb11' := of_decide_eq_true hb11
   refine sdc A ql hb11 λa A↦?_
   iterate 2 refine sdm A λa A↦?_
   rcases tf (decide (((b.toNat : Nat) : Int) ≤ 102)) with hb12 | hb12
   ·
    have hb12' := of_decide_eq_true hb12
    refine sdc A qn hb12 λa A↦?_
    iterate 2 refine sdk (v := bV true) A λa A↦?_
    refine sdm A λa A↦?_
    iterate 3 refine qg A rfl rfl rfl λa A↦?_
    iterate 2 refine jq A rfl rfl rfl λa A↦?_
    refine qg A rfl rfl rfl λa A↦?_
    refine sdk (v := bV true) A λa A↦?_
    refine sda A λa A↦?_
    refine qa (hK2 _ _ (wr1 hret A ?_))
    exact ⟨by unfold isHx; rw [hb3, hb11, hb12]; rfl, M.bel⟩
   ·
    have hb12' := of_decide_eq_false hb12
    refine sdc A qn hb12 λa A↦?_
    iterate 2 refine sdk (v := bV false) A λa A↦?_
    iterate 2 refine sdm A λa A↦?_
    rcases tf (decide (65 ≤ ((b.toNat : Nat) : Int))) with hb13 | hb13
    ·
     have hb13' := of_decide_eq_true hb13
     refine sdc A ql hb13 λa A↦?_
     iterate 2 refine sdm A λa A↦?_
     rcases tf (decide (((b.toNat : Nat) : Int) ≤ 70)) with hb14 | hb14
     ·
      have hb14' := of_decide_eq_true hb14
      refine sdc A qn hb14 λa A↦?_
      iterate 2 refine sdk (v := bV true) A λa A↦?_
      refine sda A λa A↦?_
      refine qa (hK2 _ _ (wr1 hret A ?_))
      exact ⟨by unfold isHx; rw [hb3, hb11, hb12, hb13, hb14]; rfl, M.bel⟩
     ·
      have hb14' := of_decide_eq_false hb14
      refine sdc A qn hb14 λa A↦?_
      iterate 2 refine sdk (v := bV false) A λa A↦?_
      refine sda A λa A↦?_
      refine qa (hK2 _ _ (wr1 hret A ?_))
      exact ⟨by unfold isHx; rw [hb3, hb11, hb12, hb13, hb14]; rfl, M.bel⟩
    ·
     have hb13' := of_decide_eq_false hb13
     refine sdc A ql hb13 λa A↦?_
     refine sdm A λa A↦?_
     iterate 2 refine qg A rfl rfl rfl λa A↦?_
     iterate 2 refine sdk (v := bV false) A λa A↦?_
     refine sda A λa A↦?_
     refine qa (hK2 _ _ (wr1 hret A ?_))
     exact ⟨by unfold isHx; rw [hb3, hb11, hb12, hb13]; rfl, M.bel⟩
  ·
   have hb11' := of_decide_eq_false hb11
   refine sdc A ql hb11 λa A↦?_
   refine sdm A λa A↦?_
   iterate 2 refine qg A rfl rfl rfl λa A↦?_
   iterate 2 refine sdk (v := bV false) A λa A↦?_
   iterate 2 refine sdm A λa A↦?_
   rcases tf (decide (65 ≤ ((b.toNat : Nat) : Int))) with hb15 | hb15
   ·
    have hb15' := of_decide_eq_true hb15
    refine sdc A ql hb15 λa A↦?_
    iterate 2 refine sdm A λa A↦?_
    rcases tf (decide (((b.toNat : Nat) : Int) ≤ 70)) with hb16 | hb16
    ·
     have hb16' := of_decide_eq_true hb16
     refine sdc A qn hb16 λa A↦?_
     iterate 2 refine sdk (v := bV true) A λa A↦?_
     refine sda A λa A↦?_
     refine qa (hK2 _ _ (wr1 hret A ?_))
     exact ⟨by unfold isHx; rw [hb3, hb11, hb15, hb16]; rfl, M.bel⟩
    ·
     have hb16' := of_decide_eq_false hb16
     refine sdc A qn hb16 λa A↦?_
     iterate 2 refine sdk (v := bV false) A λa A↦?_
     refine sda A λa A↦?_
     refine qa (hK2 _ _ (wr1 hret A ?_))
     exact ⟨by unfold isHx; rw [hb3, hb11, hb15, hb16]; rfl, M.bel⟩
   ·
    have hb15' := of_decide_eq_false hb15
    refine sdc A ql hb15 λa A↦?_
    refine sdm A λa A↦?_
    iterate 2 refine qg A rfl rfl rfl λa A↦?_
    iterate 2 refine sdk (v := bV false) A λa A↦?_
    refine sda A λa A↦?_
    refine qa (hK2 _ _ (wr1 hret A ?_))
    exact ⟨by unfold isHx; rw [hb3, hb11, hb15]; rfl, M.bel⟩
theorem jb {w : World} {b : UInt8} {c : Bool} (h : isHx b = c) : Calls Tryz.prog 116 #[.int .u8 ((b.toNat : Nat) : Int)] w fun e w' => e = .returned (bV c) ∧ Below w.heap.size w w' := h ▸ hex_any
theorem jc {w : World} {l : List UInt8} (hT : Tb w) (hl : l.length ≤ 1000000000) : Calls Tryz.prog 86 #[.string (tx l)] w fun e w' => e = .returned (iV ((tiedN l : Nat) : Int)) ∧ Below w.heap.size w w' := by
 have M : Mg w w ([]) := Mg.start w
 refine qr (l := [(0, .string ((tx l)))]) Tryz.func86 rfl Tryz.ntmps86 rfl rfl ?_
 intro Q hret hnorm hP a A
 refine wsk fun K1 hK1 => wrl (sda A λa A↦?_)
 refine qa (hK1 _ _ (wsk fun K2 hK2 => wrl (sdm A λa A↦?_)))
 refine sct A (ef rfl rfl) (dc_any (l := l) (hT.below M.bel)) ?_
 rintro _ w4 ⟨rfl, hb3⟩
 obtain ⟨q, hq⟩ : ∃ q, (dcX l).2 = q := ⟨_, rfl⟩
 have hql := dcX_le l
 rw [hq] at hql ⊢
 replace M := M.call hb3
 refine ⟨_, rfl, ?_⟩
 intro a A
 refine sdm A λa A↦?_
 iterate 2 refine sdo A (qp (vs := [.int .i32 ((((dcX l).1 : Nat) : Int)), iV (((q : Nat) : Int))]) rfl rfl) λa A↦?_
 iterate 2 refine sda A λa A↦?_
 refine qa (hK2 _ _ (wsk fun K5 hK5 => wrl (sda A λa A↦?_)))
 refine qa (hK5 _ _ (wsk fun K6 hK6 => wp_block (zl (fun m_ a w1 => ∃ (j : Nat), m_ = 1 + (l.length - (q + j)) ∧ (q + j ≤ l.length ∧ hxN (l.drop q) = j + hxN (l.drop (q + j))) ∧ Sl a 41 [(0, .string ((tx l))), (2, iV 0), (3, .int .i32 ((((dcX l).1 : Nat) : Int))), (4, iV (((q : Nat) : Int))), (5, iV (((j : Nat) : Int))), (6, .tuple #[.int .i32 ((((dcX l).1 : Nat) : Int)), iV (((q : Nat) : Int))]), (7, .string ((tx l))), (8, .tuple #[.int .i32 ((((dcX l).1 : Nat) : Int)), iV (((q : Nat) : Int))]), (9, .int .i32 ((((dcX l).1 : Nat) : Int))), (10, iV (((q : Nat) : Int)))] ∧ Mg w w1 ([])) _ ⟨0, rfl, ⟨by omega, by rw [Nat.zero_add, Nat.add_zero]⟩, A.keep _ (by repeat' constructor), M⟩ ?_)))
 clear M A
 rintro m_ a w7 ⟨j, rfl, hinv9, A, M⟩ K8 hK8
 obtain ⟨hj0, hj⟩ := hinv9
 refine wsk fun K10 hK10 => wsk fun K11 hK11 => wrl ?_
 iterate 2 refine sdm A λa A↦?_
 refine sdo (v := iV (((q + j : Nat) : Int))) A (qb rfl rfl (ar_add ((in_i64 (by omega) (by omega)).trans (by omega)))) λa A↦?_
 refine sdm A λa A↦?_
 refine sdo (v := iV (((l.length : Nat) : Int))) A (zg (s := l) Tryz.underlying9 rfl) λa A↦?_
 rcases tf (decide (((q + j : Nat) : Int) < ((l.length : Nat) : Int))) with hb12 | hb12
 ·
  have hb12' := of_decide_eq_true hb12
  refine sdc A qw hb12 λa A↦?_
  iterate 4 refine sdm A λa A↦?_
  refine sdo (v := iV (((q + j : Nat) : Int))) A (qb rfl rfl (ar_add ((in_i64 (by omega) (by omega)).trans (by omega)))) λa A↦?_
  obtain ⟨b13, hb14⟩ : ∃ b, l[q + j]? = some b := ⟨_, List.getElem?_eq_getElem (show q + j < l.length by omega)⟩
  refine sdo (v := .int .u8 (((b13.toNat : Nat) : Int))) A (zb (s := l) (i := q + j) Tryz.underlying9 rfl rfl rfl hb14) λa A↦?_
  rcases tf (isHx b13) with hb15 | hb15
  ·
   refine gcl A M (ef rfl rfl) ((jb hb15)) fun w17 hb16 M a A => ?_
   refine sdk (v := bV true) A λa A↦?_
   refine qa (hK11 _ _ (ct A ?_))
   refine wp_skip (hK10 _ _ (wp_block (wrl (sdm A λa A↦?_))))
   refine sdo (v := iV (((j + 1 : Nat) : Int))) A (qb rfl rfl (ar_add ((in_i64 (by omega) (by omega)).trans (by omega)))) λa A↦?_
   refine sda A λa A↦?_
   refine qa ?_
   refine hK8 _ _ _ (by omega) ⟨j + 1, rfl, ⟨by omega, by rw [hj, hxN_hit hb14 hb15, Nat.add_assoc]; omega⟩, A.keep _ (by repeat' constructor), M⟩
  ·
   refine gcl A M (ef rfl rfl) ((jb hb15)) fun w19 hb18 M a A => ?_
   refine sdk (v := bV false) A λa A↦?_
   refine qa (hK11 _ _ (cf A ?_))
   refine wp_exit (hK6 _ _ (wsk fun K20 hK20 => wrl ?_))
   iterate 2 refine sdm A λa A↦?_
   refine sdo (v := iV (((q + j : Nat) : Int))) A (qb rfl rfl (ar_add ((in_i64 (by omega) (by omega)).trans (by omega)))) λa A↦?_
   refine sda A λa A↦?_
   refine qa (hK20 _ _ (wsk fun K21 hK21 => wsk fun K22 hK22 => wrl (sdm A λa A↦?_)))
   rcases tf (decide (0 < ((j : Nat) : Int))) with hb23 | hb23
   ·
    have hb23' := of_decide_eq_true hb23
    refine sdc A qx hb23 λa A↦?_
    iterate 3 refine sdm A λa A↦?_
    refine sdo (v := .string ((tx (l.drop (q + j))))) A (qs (s := l) (p := q + j) Tryz.underlying9 rfl rfl rfl (by omega)) λa A↦?_
    rcases tf (Lib.hasPrefix (l.drop (q + j)) [59]) with hb24 | hb24
    ·
     refine gcl A M (ef rfl rfl) ((hp_as hb24)) fun w26 hb25 M a A => ?_
     refine sdk (v := bV true) A λa A↦?_
     refine qa (hK22 _ _ (ct A ?_))
     refine wrl (sdm A λa A↦?_)
     refine sdo (v := iV (((q + j + 1 : Nat) : Int))) A (qb rfl rfl (ar_add ((in_i64 (by omega) (by omega)).trans (by omega)))) λa A↦?_
     refine sda A λa A↦?_
     refine qa (hK21 _ _ (wsk fun K27 hK27 => wrl (sdm A λa A↦?_)))
     refine sda A λa A↦?_
     refine qa (hK27 _ _ (wr1 hret A ?_))
     have hz : hxN (l.drop (q + j)) = 0 := by first | exact hxN_not (by assumption) (by assumption) | exact hxN_end (by omega)
     have hjj : hxN (l.drop q) = j := by omega
     exact ⟨by unfold tiedN; rw [hq, hjj, hb24, if_pos (by rw [decide_eq_true (by omega)]; rfl)], M.bel⟩
    ·
     refine gcl A M (ef rfl rfl) ((hp_as hb24)) fun w29 hb28 M a A => ?_
     refine sdk (v := bV false) A λa A↦?_
     refine qa (hK22 _ _ (cf A ?_))
     refine wp_skip (hK21 _ _ (wsk fun K30 hK30 => wrl (sdm A λa A↦?_)))
     refine sda A λa A↦?_
     refine qa (hK30 _ _ (wr1 hret A ?_))
     have hz : hxN (l.drop (q + j)) = 0 := by first | exact hxN_not (by assumption) (by assumption) | exact hxN_end (by omega)
     have hjj : hxN (l.drop q) = j := by omega
     exact ⟨by unfold tiedN; rw [hq, hjj, hb24, if_neg (by rw [Bool.and_false]; decide)]; rfl, M.bel⟩
   ·
    have hb23' := of_decide_eq_false hb23
    refine sdc A qx hb23 λa A↦?_
    refine sdm A λa A↦?_
    iterate 4 refine qg A rfl rfl rfl λa A↦?_
    refine sdk (v := bV false) A λa A↦?_
    refine qa (hK22 _ _ (cf A ?_))
    refine wp_skip (hK21 _ _ (wsk fun K31 hK31 => wrl (sdm A λa A↦?_)))
    refine sda A λa A↦?_
    refine qa (hK31 _ _ (wr1 hret A ?_))
    have hz : hxN (l.drop (q + j)) = 0 := by first | exact hxN_not (by assumption) (by assumption) | exact hxN_end (by omega)
    have hjj : hxN (l.drop q) = j := by omega
    exact ⟨by unfold tiedN; rw [hq, hjj, if_neg (by rw [decide_eq_false (by omega), Bool.false_and]; decide)]; rfl, M.bel⟩
 ·
  have hb12' := of_decide_eq_false hb12
  refine sdc A qw hb12 λa A↦?_
  refine sdm A λa A↦?_
  iterate 6 refine qg A rfl rfl rfl λa A↦?_
  refine sdk (v := bV false) A λa A↦?_
  refine qa (hK11 _ _ (cf A ?_))
  refine wp_exit (hK6 _ _ (wsk fun K32 hK32 => wrl ?_))
  iterate 2 refine sdm A λa A↦?_
  refine sdo (v := iV (((q + j : Nat) : Int))) A (qb rfl rfl (ar_add ((in_i64 (by omega) (by omega)).trans (by omega)))) λa A↦?_
  refine sda A λa A↦?_
  refine qa (hK32 _ _ (wsk fun K33 hK33 => wsk fun K34 hK34 => wrl (sdm A λa A↦?_)))
  rcases tf (decide (0 < ((j : Nat) : Int))) with hb35 | hb35
  ·
   have hb35' := of_decide_eq_true hb35
   refine sdc A qx hb35 λa A↦?_
   iterate 3 refine sdm A λa A↦?_
   refine sdo (v := .string ((tx (l.drop (q + j))))) A (qs (s := l) (p := q + j) Tryz.underlying9 rfl rfl rfl (by omega)) λa A↦?_
   rcases tf (Lib.hasPrefix (l.drop (q + j)) [59]) with hb36 | hb36
   ·
    refine gcl A M (ef rfl rfl) ((hp_as hb36)) fun w38 hb37 M a A => ?_
    refine sdk (v := bV true) A λa A↦?_
    refine qa (hK34 _ _ (ct A ?_))
    refine wrl (sdm A λa A↦?_)
    refine sdo (v := iV (((q + j + 1 : Nat) : Int))) A (qb rfl rfl (ar_add ((in_i64 (by omega) (by omega)).trans (by omega)))) λa A↦?_
    refine sda A λa A↦?_
    refine qa (hK33 _ _ (wsk fun K39 hK39 => wrl (sdm A λa A↦?_)))
    refine sda A λa A↦?_
    refine qa (hK39 _ _ (wr1 hret A ?_))
    have hz : hxN (l.drop (q + j)) = 0 := by first | exact hxN_not (by assumption) (by assumption) | exact hxN_end (by omega)
    have hjj : hxN (l.drop q) = j := by omega
    exact ⟨by unfold tiedN; rw [hq, hjj, hb36, if_pos (by rw [decide_eq_true (by omega)]; rfl)], M.bel⟩
   ·
    refine gcl A M (ef rfl rfl) ((hp_as hb36)) fun w41 hb40 M a A => ?_
    refine sdk (v := bV false) A λa A↦?_
    refine qa (hK34 _ _ (cf A ?_))
    refine wp_skip (hK33 _ _ (wsk fun K42 hK42 => wrl (sdm A λa A↦?_)))
    refine sda A λa A↦?_
    refine qa (hK42 _ _ (wr1 hret A ?_))
    have hz : hxN (l.drop (q + j)) = 0 := by first | exact hxN_not (by assumption) (by assumption) | exact hxN_end (by omega)
    have hjj : hxN (l.drop q) = j := by omega
    exact ⟨by unfold tiedN; rw [hq, hjj, hb36, if_neg (by rw [Bool.and_false]; decide)]; rfl, M.bel⟩
  ·
   have hb35' := of_decide_eq_false hb35
   refine sdc A qx hb35 λa A↦?_
   refine sdm A λa A↦?_
   iterate 4 refine qg A rfl rfl rfl λa A↦?_
   refine sdk (v := bV false) A λa A↦?_
   refine qa (hK34 _ _ (cf A ?_))
   refine wp_skip (hK33 _ _ (wsk fun K43 hK43 => wrl (sdm A λa A↦?_)))
   refine sda A λa A↦?_
   refine qa (hK43 _ _ (wr1 hret A ?_))
   have hz : hxN (l.drop (q + j)) = 0 := by first | exact hxN_not (by assumption) (by assumption) | exact hxN_end (by omega)
   have hjj : hxN (l.drop q) = j := by omega
   exact ⟨by unfold tiedN; rw [hq, hjj, if_neg (by rw [decide_eq_false (by omega), Bool.false_and]; decide)]; rfl, M.bel⟩
end Go.Proofs.YtclkfideaameoaaGreatDoor.G
 ((delim_as (okR_dc _) hb15)) fun w17 hb16 M a A => ?_
   refine qa (hK14 _ _ (ct A ?_))
   refine wp_exit (hK3 _ _ (wsk fun K18 hK18 => wrl ?_))
   iterate 2 refine sdm A λa A↦?_
   refine sdo (v := .string ((tx (l.take n)))) A (zs (s := l) (p := n) Tryz.underlying9 rfl rfl rfl (by omega)) λa A↦?_
   refine sda A λa A↦?_
   refine qa (hK18 _ _ (wr1 hret A ?_))
   exact ⟨by rw [hn, show tokN (f + 1) (l.drop n) = 0 from tok_stop hb15, Nat.add_zero], M.bel⟩
  ·
   refine gcl A M (ef rfl rfl) ((delim_as (okR_dc _) hb15)) fun w20 hb19 M a A => ?_
   refine qa (hK14 _ _ (cf A ?_))
   refine wp_skip (hK13 _ _ (wsk fun K21 hK21 => wrl ?_))
   iterate 2 refine sdm A λa A↦?_
   refine sdo (v := iV (((n + (dcX (l.drop n)).2 : Nat) : Int))) A (qb rfl rfl (ar_add ((in_i64 (by omega) (by omega)).trans (by omega)))) λa A↦?_
   refine sda A λa A↦?_
   refine qa (hK21 _ _ (wsk fun K22 hK22 => wrl (sdm A λa A↦?_)))
   rcases tf (((((dcX (l.drop n)).1 : Nat) : Int) == 92)) with hb23 | hb23
   ·
    have hb23' := eq_of_beq hb23
    refine sdc A ze hb23 λa A↦?_
    refine qa (hK22 _ _ (ct A ?_))
    refine wrl ?_
    iterate 3 refine sdm A λa A↦?_
    refine sdo (v := .string ((tx (l.drop (n + (dcX (l.drop n)).2))))) A (qs (s := l) (p := n + (dcX (l.drop n)).2) Tryz.underlying9 rfl rfl rfl (by omega)) λa A↦?_
    have ht25 := tiedN_le (l.drop (n + (dcX (l.drop n)).2))
    rw [List.length_drop] at ht25
    refine gcl A M (ef rfl rfl) (jc (l := l.drop (n + (dcX (l.drop n)).2)) (hT.below M.bel) (by rw [List.length_drop]; omega)) fun w26 hb24 M a A => ?_
    refine sdo (v := iV (((n + (dcX (l.drop n)).2 + tiedN (l.drop (n + (dcX (l.drop n)).2)) : Nat) : Int))) A (qb rfl rfl (ar_add ((in_i64 (by omega) (by omega)).trans (by omega)))) λa A↦?_
    refine sda A λa A↦?_
    refine qa ?_
    have e7 := tok_go (f := f) hne hb15 (if_pos (eq_of_beq hb23))
    simp only [List.drop_drop] at e7
    refine hK5 _ _ _ (by omega) ⟨n + (dcX (l.drop n)).2 + tiedN (l.drop (n + (dcX (l.drop n)).2)), f, rfl, ⟨by omega, by omega, by rw [hn, e7, Nat.add_assoc n (dcX (l.drop n)).2 _]; exact (Nat.add_assoc _ _ _).symm⟩, A.keep _ ⟨rfl, rfl, rfl, trivial⟩, M⟩
   ·
    have hb23' := ne_of_beq_false hb23
    refine sdc A ze hb23 λa A↦?_
    refine qa (hK22 _ _ (cf A ?_))
    refine wp_skip ?_
    refine hK5 _ _ _ (by omega) ⟨n + (dcX (l.drop n)).2, f, rfl, ⟨by omega, by omega, by rw [hn, tok_go hne hb15 (if_neg (ne_of_beq_false hb23)), List.drop_drop, Nat.add_assoc]⟩, A.keep _ ⟨rfl, rfl, rfl, trivial⟩, M⟩
 ·
  have hb9' := of_decide_eq_false hb9
  refine sdc A qw hb9 λa A↦?_
  refine qa (hK8 _ _ (cf A ?_))
  refine wp_exit (hK3 _ _ (wsk fun K27 hK27 => wrl ?_))
  iterate 2 refine sdm A λa A↦?_
  refine sdo (v := .string ((tx (l.take n)))) A (zs (s := l) (p := n) Tryz.underlying9 rfl rfl rfl (by omega)) λa A↦?_
  refine sda A λa A↦?_
  refine qa (hK27 _ _ (wr1 hret A ?_))
  exact ⟨by rw [hn, show tokN (f + 1) (l.drop n) = 0 from (by rw [List.drop_eq_nil_of_le (by omega)]; exact tok_end _), Nat.add_zero], M.bel⟩
end Go.Proofs.YtclkfideaameoaaGreatDoor.G
neg (of_decide_eq_false hb5), if_neg (of_decide_eq_false hb8), if_pos (of_decide_eq_true hb11)]; rfl, M.bel⟩
   ·
    have hb11' := of_decide_eq_false hb11
    refine sdo (v := bV false) A (qb rfl rfl (fun w => (qe (a := l) (b := [98, 97, 99, 107, 115, 112, 97, 99, 101]) Tryz.underlying9 w).trans (by rw [hb11] <;> rfl))) λa A↦?_
    refine sda A λa A↦?_
    refine qa (hK10 _ _ (cf A ?_))
    refine wsk fun K13 hK13 => wrl ?_
    rcases tf (decide (l = [116, 97, 98])) with hb14 | hb14
    ·
     have hb14' := of_decide_eq_true hb14
     refine sdo (v := bV true) A (qb rfl rfl (fun w => (qe (a := l) (b := [116, 97, 98]) Tryz.underlying9 w).trans (by rw [hb14] <;> rfl))) λa A↦?_
     refine sda A λa A↦?_
     refine qa (hK13 _ _ (ct A ?_))
     refine wsk fun K15 hK15 => wrl ?_
     iterate 2 refine sda A λa A↦?_
     refine qa (hK15 _ _ (wp_ret (hret _ _ (en2 A rfl (qf rfl) (qf rfl) ?_))))
     exact ⟨by unfold nmdX; rw [if_neg (of_decide_eq_false hb5), if_neg (of_decide_eq_false hb8), if_neg (of_decide_eq_false hb11), if_pos (of_decide_eq_true hb14)]; rfl, M.bel⟩
    ·
     have hb14' := of_decide_eq_false hb14
     refine sdo (v := bV false) A (qb rfl rfl (fun w => (qe (a := l) (b := [116, 97, 98]) Tryz.underlying9 w).trans (by rw [hb14] <;> rfl))) λa A↦?_
     refine sda A λa A↦?_
     refine qa (hK13 _ _ (cf A ?_))
     refine wsk fun K16 hK16 => wsk fun K17 hK17 => wrl ?_
     rcases tf (decide (l = [108, 105, 110, 101, 102, 101, 101, 100])) with hb18 | hb18
     ·
      have hb18' := of_decide_eq_true hb18
      refine sdo (v := bV true) A (qb rfl rfl (fun w => (qe (a := l) (b := [108, 105, 110, 101, 102, 101, 101, 100]) Tryz.underlying9 w).trans (by rw [hb18] <;> rfl))) λa A↦?_
      refine sda A λa A↦?_
      refine qa (hK17 _ _ (ct A ?_))
      refine wp_skip (hK16 _ _ (ct A ?_))
      refine wsk fun K19 hK19 => wrl ?_
      iterate 2 refine sda A λa A↦?_
      refine qa (hK19 _ _ (wp_ret (hret _ _ (en2 A rfl (qf rfl) (qf rfl) ?_))))
      exact ⟨by unfold nmdX; rw [if_neg (of_decide_eq_false hb5), if_neg (of_decide_eq_false hb8), if_neg (of_decide_eq_false hb11), if_neg (of_decide_eq_false hb14), if_pos (of_decide_eq_true hb18)]; rfl, M.bel⟩
     ·
      have hb18' := of_decide_eq_false hb18
      refine sdo (v := bV false) A (qb rfl rfl (fun w => (qe (a := l) (b := [108, 105, 110, 101, 102, 101, 101, 100]) Tryz.underlying9 w).trans (by rw [hb18] <;> rfl))) λa A↦?_
      refine sda A λa A↦?_
      refine qa (hK17 _ _ (cf A ?_))
      refine wrl ?_
      rcases tf (decide (l = [110, 101, 119, 108, 105, 110, 101])) with hb20 | hb20
      ·
       have hb20' := of_decide_eq_true hb20
       refine sdo (v := bV true) A (qb rfl rfl (fun w => (qe (a := l) (b := [110, 101, 119, 108, 105, 110, 101]) Tryz.underlying9 w).trans (by rw [hb20] <;> rfl))) λa A↦?_
       refine sda A λa A↦?_
       refine qa (hK16 _ _ (ct A ?_))
       refine wsk fun K21 hK21 => wrl ?_
       iterate 2 refine sda A λa A↦?_
       refine qa (hK21 _ _ (wp_ret (hret _ _ (en2 A rfl (qf rfl) (qf rfl) ?_))))
       exact ⟨by unfold nmdX; rw [if_neg (of_decide_eq_false hb5), if_neg (of_decide_eq_false hb8), if_neg (of_decide_eq_false hb11), if_neg (of_decide_eq_false hb14), if_neg (of_decide_eq_false hb18), if_pos (of_decide_eq_true hb20)]; rfl, M.bel⟩
      ·
       have hb20' := of_decide_eq_false hb20
       refine sdo (v := bV false) A (qb rfl rfl (fun w => (qe (a := l) (b := [110, 101, 119, 108, 105, 110, 101]) Tryz.underlying9 w).trans (by rw [hb20] <;> rfl))) λa A↦?_
       refine sda A λa A↦?_
       refine qa (hK16 _ _ (cf A ?_))
       refine wsk fun K22 hK22 => wrl ?_
       rcases tf (decide (l = [118, 116, 97, 98])) with hb23 | hb23
       ·
        have hb23' := of_decide_eq_true hb23
        refine sdo (v := bV true) A (qb rfl rfl (fun w => (qe (a := l) (b := [118, 116, 97, 98]) Tryz.underlying9 w).trans (by rw [hb23] <;> rfl))) λa A↦?_
        refine sda A λa A↦?_
        refine qa (hK22 _ _ (ct A ?_))
        refine wsk fun K24 hK24 => wrl ?_
        iterate 2 refine sda A λa A↦?_
        refine qa (hK24 _ _ (wp_ret (hret _ _ (en2 A rfl (qf rfl) (qf rfl) ?_))))
        exact ⟨by unfold nmdX; rw [if_neg (of_decide_eq_false hb5), if_neg (of_decide_eq_false hb8), if_neg (of_decide_eq_false hb11), if_neg (of_decide_eq_false hb14), if_neg (of_decide_eq_false hb18), if_neg (of_decide_eq_false hb20), if_pos (of_decide_eq_true hb23)]; rfl, M.bel⟩
       ·
        have hb23' := of_decide_eq_false hb23
        refine sdo (v := bV false) A (qb rfl rfl (fun w => (qe (a := l) (b := [118, 116, 97, 98]) Tryz.underlying9 w).trans (by rw [hb23] <;> rfl))) λa A↦?_
        refine sda A λa A↦?_
        refine qa (hK22 _ _ (cf A ?_))
        refine wsk fun K25 hK25 => wrl ?_
        rcases tf (decide (l = [112, 97, 103, 101])) with hb26 | hb26
        ·
         have hb26' := of_decide_eq_true hb26
         refine sdo (v := bV true) A (qb rfl rfl (fun w => (qe (a := l) (b := [112, 97, 103, 101]) Tryz.underlying9 w).trans (by rw [hb26] <;> rfl))) λa A↦?_
         refine sda A λa A↦?_
         refine qa (hK25 _ _ (ct A ?_))
         refine wsk fun K27 hK27 => wrl ?_
         iterate 2 refine sda A λa A↦?_
         refine qa (hK27 _ _ (wp_ret (hret _ _ (en2 A rfl (qf rfl) (qf rfl) ?_))))
         exact ⟨by unfold nmdX; rw [if_neg (of_decide_eq_false hb5), if_neg (of_decide_eq_false hb8), if_neg (of_decide_eq_false hb11), if_neg (of_decide_eq_false hb14), if_neg (of_decide_eq_false hb18), if_neg (of_decide_eq_false hb20), if_neg (of_decide_eq_false hb23), if_pos (of_decide_eq_true hb26)]; rfl, M.bel⟩
        ·
         have hb26' := of_decide_eq_false hb26
         refine sdo (v := bV false) A (qb rfl rfl (fun w => (qe (a := l) (b := [112, 97, 103, 101]) Tryz.underlying9 w).trans (by rw [hb26] <;> rfl))) λa A↦?_
         refine sda A λa A↦?_
         refine qa (hK25 _ _ (cf A ?_))
         refine wsk fun K28 hK28 => wrl ?_
         rcases tf (decide (l = [114, 101, 116, 117, 114, 110])) with hb29 | hb29
         ·
          have hb29' := of_decide_eq_true hb29
          refine sdo (v := bV true) A (qb rfl rfl (fun w => (qe (a := l) (b := [114, 101, 116, 117, 114, 110]) Tryz.underlying9 w).trans (by rw [hb29] <;> rfl))) λa A↦?_
          refine sda A λa A↦?_
          refine qa (hK28 _ _ (ct A ?_))
          refine wsk fun K30 hK30 => wrl ?_
          iterate 2 refine sda A λa A↦?_
          refine qa (hK30 _ _ (wp_ret (hret _ _ (en2 A rfl (qf rfl) (qf rfl) ?_))))
          exact ⟨by unfold nmdX; rw [if_neg (of_decide_eq_false hb5), if_neg (of_decide_eq_false hb8), if_neg (of_decide_eq_false hb11), if_neg (of_decide_eq_false hb14), if_neg (of_decide_eq_false hb18), if_neg (of_decide_eq_false hb20), if_neg (of_decide_eq_false hb23), if_neg (of_decide_eq_false hb26), if_pos (of_decide_eq_true hb29)]; rfl, M.bel⟩
         ·
          have hb29' := of_decide_eq_false hb29
          refine sdo (v := bV false) A (qb rfl rfl (fun w => (qe (a := l) (b := [114, 101, 116, 117, 114, 110]) Tryz.underlying9 w).trans (by rw [hb29] <;> rfl))) λa A↦?_
          refine sda A λa A↦?_
          refine qa (hK28 _ _ (cf A ?_))
          refine wsk fun K31 hK31 => wrl ?_
          rcases tf (decide (l = [101, 115, 99])) with hb32 | hb32
          ·
           have hb32' := of_decide_eq_true hb32
           refine sdo (v := bV true) A (qb rfl rfl (fun w => (qe (a := l) (b := [101, 115, 99]) Tryz.underlying9 w).trans (by rw [hb32] <;> rfl))) λa A↦?_
           refine sda A λa A↦?_
           refine qa (hK31 _ _ (ct A ?_))
           refine wsk fun K33 hK33 => wrl ?_
           iterate 2 refine sda A λa A↦?_
           refine qa (hK33 _ _ (wp_ret (hret _ _ (en2 A rfl (qf rfl) (qf rfl) ?_))))
           exact ⟨by unfold nmdX; rw [if_neg (of_decide_eq_false hb5), if_neg (of_decide_eq_false hb8), if_neg (of_decide_eq_false hb11), if_neg (of_decide_eq_false hb14), if_neg (of_decide_eq_false hb18), if_neg (of_decide_eq_false hb20), if_neg (of_decide_eq_false hb23), if_neg (of_decide_eq_false hb26), if_neg (of_decide_eq_false hb29), if_pos (of_decide_eq_true hb32)]; rfl, M.bel⟩
          ·
           have hb32' := of_decide_eq_false hb32
           refine sdo (v := bV false) A (qb rfl rfl (fun w => (qe (a := l) (b := [101, 115, 99]) Tryz.underlying9 w).trans (by rw [hb32] <;> rfl))) λa A↦?_
           refine sda A λa A↦?_
           refine qa (hK31 _ _ (cf A ?_))
           refine wsk fun K34 hK34 => wrl ?_
           rcases tf (decide (l = [115, 112, 97, 99, 101])) with hb35 | hb35
           ·
            have hb35' := of_decide_eq_true hb35
            refine sdo (v := bV true) A (qb rfl rfl (fun w => (qe (a := l) (b := [115, 112, 97, 99, 101]) Tryz.underlying9 w).trans (by rw [hb35] <;> rfl))) λa A↦?_
            refine sda A λa A↦?_
            refine qa (hK34 _ _ (ct A ?_))
            refine wsk fun K36 hK36 => wrl ?_
            iterate 2 refine sda A λa A↦?_
            refine qa (hK36 _ _ (wp_ret (hret _ _ (en2 A rfl (qf rfl) (qf rfl) ?_))))
            exact ⟨by unfold nmdX; rw [if_neg (of_decide_eq_false hb5), if_neg (of_decide_eq_false hb8), if_neg (of_decide_eq_false hb11), if_neg (of_decide_eq_false hb14), if_neg (of_decide_eq_false hb18), if_neg (of_decide_eq_false hb20), if_neg (of_decide_eq_false hb23), if_neg (of_decide_eq_false hb26), if_neg (of_decide_eq_false hb29), if_neg (of_decide_eq_false hb32), if_pos (of_decide_eq_true hb35)]; rfl, M.bel⟩
           ·
            have hb35' := of_decide_eq_false hb35
            refine sdo (v := bV false) A (qb rfl rfl (fun w => (qe (a := l) (b := [115, 112, 97, 99, 101]) Tryz.underlying9 w).trans (by rw [hb35] <;> rfl))) λa A↦?_
            refine sda A λa A↦?_
            refine qa (hK34 _ _ (cf A ?_))
            refine wsk fun K37 hK37 => wrl ?_
            rcases tf (decide (l = [100, 101, 108, 101, 116, 101])) with hb38 | hb38
            ·
             have hb38' := of_decide_eq_true hb38
             refine sdo (v := bV true) A (qb rfl rfl (fun w => (qe (a := l) (b := [100, 101, 108, 101, 116, 101]) Tryz.underlying9 w).trans (by rw [hb38] <;> rfl))) λa A↦?_
             refine sda A λa A↦?_
             refine qa (hK37 _ _ (ct A ?_))
             refine wsk fun K39 hK39 => wrl ?_
             iterate 2 refine sda A λa A↦?_
             refine qa (hK39 _ _ (wp_ret (hret _ _ (en2 A rfl (qf rfl) (qf rfl) ?_))))
             exact ⟨by unfold nmdX; rw [if_neg (of_decide_eq_false hb5), if_neg (of_decide_eq_false hb8), if_neg (of_decide_eq_false hb11), if_neg (of_decide_eq_false hb14), if_neg (of_decide_eq_false hb18), if_neg (of_decide_eq_false hb20), if_neg (of_decide_eq_false hb23), if_neg (of_decide_eq_false hb26), if_neg (of_decide_eq_false hb29), if_neg (of_decide_eq_false hb32), if_neg (of_decide_eq_false hb35), if_pos (of_decide_eq_true hb38)]; rfl, M.bel⟩
            ·
             have hb38' := of_decide_eq_false hb38
             refine sdo (v := bV false) A (qb rfl rfl (fun w => (qe (a := l) (b := [100, 101, 108, 101, 116, 101]) Tryz.underlying9 w).trans (by rw [hb38] <;> rfl))) λa A↦?_
             refine sda A λa A↦?_
             refine qa (hK37 _ _ (cf A ?_))
             refine wp_skip (hK2 _ _ (wsk fun K40 hK40 => wrl ?_))
             iterate 2 refine sda A λa A↦?_
             refine qa (hK40 _ _ (wp_ret (hret _ _ (en2 A rfl (qf rfl) (qf rfl) ?_))))
             exact ⟨by unfold nmdX; rw [if_neg (of_decide_eq_false hb5), if_neg (of_decide_eq_false hb8), if_neg (of_decide_eq_false hb11), if_neg (of_decide_eq_false hb14), if_neg (of_decide_eq_false hb18), if_neg (of_decide_eq_false hb20), if_neg (of_decide_eq_false hb23), if_neg (of_decide_eq_false hb26), if_neg (of_decide_eq_false hb29), if_neg (of_decide_eq_false hb32), if_neg (of_decide_eq_false hb35), if_neg (of_decide_eq_false hb38)]; rfl, M.bel⟩
theorem jr {w0 w : World} {g p : Nat} {lg : Bool} {L : List UInt8} {T : List Ck} (hT : Tb w0) (hp : p ≤ L.length) (hl : L.length ≤ 1000000000) (hd0 : dotB (L.drop p) = true) (hM0 : Mg w0 w (.obj g (rC L p lg) :: T)) : Calls Tryz.prog 55 #[pA g 0] w fun e w' => e = .returned (bV true) ∧ Mg w0 w' (.obj g (rC L (p + 1) lg) :: T) := by
 have hd : decide ((L.drop p).take (tokN ((L.drop p).length + 1) (L.drop p)) = [46]) = true := hd0
 have hpf := dot_pre (of_decide_eq_true hd)
 have M : Mg w0 w (.obj g (rC L p lg) :: T) := hM0
 refine qr (l := [(0, pA g 0)]) Tryz.func55 rfl Tryz.ntmps55 rfl rfl ?_
 intro Q hret hnorm hP a A
 refine wsk fun K1 hK1 => wrl (sda A λa A↦?_)
 refine qa (hK1 _ _ (wsk fun K2 hK2 => wrl (sdm A λa A↦?_)))
 refine sct A (ef rfl rfl) (qz (p := p) (L := L) (T := (T)) (by omega) M) ?_
 rintro _ w4 ⟨rfl, hM3⟩
 replace M : Mg w0 w4 (.obj g (rC L p lg) :: T) := hM3
 refine ⟨_, rfl, ?_⟩
 intro a A
 refine gcl A M (ef rfl rfl) (token_any (l := L.drop p) (hT.below M.bel) (by rw [List.length_drop]; omega)) fun w6 hb5 M a A => ?_
 refine sdo (v := bV true) A (qb rfl rfl (fun w => (qe (a := (L.drop p).take (tokN ((L.drop p).length + 1) (L.drop p))) (b := [46]) Tryz.underlying9 w).trans (by rw [hd] <;> rfl))) λa A↦?_
 iterate 2 refine sdm A λa A↦?_
 have htl9 : 1 ≤ (L.drop p).length := (List.isPrefixOf_iff_prefix.1 hpf).length_le
 rw [List.length_drop] at htl9
 refine sct A (ef rfl rfl) (take_y (p := p) (L := L) (T := (T)) (by omega) (by omega) hpf M) ?_
 rintro _ w10 ⟨rfl, hM8⟩
 replace M : Mg w0 w10 (.obj g (rC L (p + 1) lg) :: T) := hM8
 refine ⟨_, rfl, ?_⟩
 intro a A
 refine sdk (v := bV true) A λa A↦?_
 refine sda A λa A↦?_
 refine qa (hK2 _ _ (wr1 hret A ?_))
 exact ⟨rfl, M⟩
theorem js {w0 w : World} {g p : Nat} {lg : Bool} {L : List UInt8} {T : List Ck} (hT : Tb w0) (hp : p ≤ L.length) (hl : L.length ≤ 1000000000) (hd0 : dotB (L.drop p) = false) (hM0 : Mg w0 w (.obj g (rC L p lg) :: T)) : Calls Tryz.prog 55 #[pA g 0] w fun e w' => e = .returned (bV false) ∧ Mg w0 w' (.obj g (rC L p lg) :: T) := by
 have hd : decide ((L.drop p).take (tokN ((L.drop p).length + 1) (L.drop p)) = [46]) = false := hd0
 
 have M : Mg w0 w (.obj g (rC L p lg) :: T) := hM0
 refine qr (l := [(0, pA g 0)]) Tryz.func55 rfl Tryz.ntmps55 rfl rfl ?_
 intro Q hret hnorm hP a A
 refine wsk fun K1 hK1 => wrl (sda A λa A↦?_)
 refine qa (hK1 _ _ (wsk fun K2 hK2 => wrl (sdm A λa A↦?_)))
 refine sct A (ef rfl rfl) (qz (p := p) (L := L) (T := (T)) (by omega) M) ?_
 rintro _ w4 ⟨rfl, hM3⟩
 replace M : Mg w0 w4 (.obj g (rC L p lg) :: T) := hM3
 refine ⟨_, rfl, ?_⟩
 intro a A
 refine gcl A M (ef rfl rfl) (token_any (l := L.drop p) (hT.below M.bel) (by rw [List.length_drop]; omega)) fun w6 hb5 M a A => ?_
 refine sdo (v := bV false) A (qb rfl rfl (fun w => (qe (a := (L.drop p).take (tokN ((L.drop p).length + 1) (L.drop p))) (b := [46]) Tryz.underlying9 w).trans (by rw [hd] <;> rfl))) λa A↦?_
 refine sdm A λa A↦?_
 iterate 2 refine qg A rfl rfl rfl λa A↦?_
 refine sdk (v := bV false) A λa A↦?_
 refine sda A λa A↦?_
 refine qa (hK2 _ _ (wr1 hret A ?_))
 exact ⟨rfl, M⟩
end Go.Proofs.YtclkfideaameoaaGreatDoor.G
:= by
 have M : Mg w w ([]) := Mg.start w
 refine qr (l := [(0, iV 5)]) Tryz.func106 rfl Tryz.ntmps106 rfl rfl ?_
 intro Q hret hnorm hP a A
 refine wsk fun K1 hK1 => wrl (sda A λa A↦?_)
 refine qa (hK1 _ _ (wsk fun K2 hK2 => wrl (sdm A λa A↦?_)))
 refine sdo (v := iV 21) A (qb rfl rfl (ar_add rfl)) λa A↦?_
 refine sdo (v := iV 2) A (qb rfl rfl (ar_quo (by decide) (by decide))) λa A↦?_
 refine sda A λa A↦?_
 refine qa (hK2 _ _ (wr1 hret A ?_))
 exact ⟨rfl, M.bel⟩
theorem ju {w : World} : Calls Tryz.prog 106 #[iV 6] w fun e w' => e = .returned (iV 2) ∧ Below w.heap.size w w' := by
 have M : Mg w w ([]) := Mg.start w
 refine qr (l := [(0, iV 6)]) Tryz.func106 rfl Tryz.ntmps106 rfl rfl ?_
 intro Q hret hnorm hP a A
 refine wsk fun K1 hK1 => wrl (sda A λa A↦?_)
 refine qa (hK1 _ _ (wsk fun K2 hK2 => wrl (sdm A λa A↦?_)))
 refine sdo (v := iV 22) A (qb rfl rfl (ar_add rfl)) λa A↦?_
 refine sdo (v := iV 2) A (qb rfl rfl (ar_quo (by decide) (by decide))) λa A↦?_
 refine sda A λa A↦?_
 refine qa (hK2 _ _ (wr1 hret A ?_))
 exact ⟨rfl, M.bel⟩
theorem jv {w : World} : Calls Tryz.prog 106 #[iV 7] w fun e w' => e = .returned (iV 2) ∧ Below w.heap.size w w' := by
 have M : Mg w w ([]) := Mg.start w
 refine qr (l := [(0, iV 7)]) Tryz.func106 rfl Tryz.ntmps106 rfl rfl ?_
 intro Q hret hnorm hP a A
 refine wsk fun K1 hK1 => wrl (sda A λa A↦?_)
 refine qa (hK1 _ _ (wsk fun K2 hK2 => wrl (sdm A λa A↦?_)))
 refine sdo (v := iV 23) A (qb rfl rfl (ar_add rfl)) λa A↦?_
 refine sdo (v := iV 2) A (qb rfl rfl (ar_quo (by decide) (by decide))) λa A↦?_
 refine sda A λa A↦?_
 refine qa (hK2 _ _ (wr1 hret A ?_))
 exact ⟨rfl, M.bel⟩
def s7 : List UInt8 := [10, 13, 194, 133, 226, 128, 168]
theorem zj : s7.length = 7 := rfl
theorem jw {i k : Nat} (h1 : i < k) (h2 : k < 7) : s7.getD i 0 ≠ s7.getD k 0 := by
 have h : ∀ i k : Fin 7, i < k → s7.getD i 0 ≠ s7.getD k 0 := by decide
 exact h ⟨i, by omega⟩ ⟨k, h2⟩ h1
theorem zh {l : List UInt8} {i : Nat} (h : i < l.length) : l[i]? = some (l.getD i 0) := by
 rw [List.getD_eq_getElem?_getD, List.getElem?_eq_getElem h]; rfl
theorem zk {a b : UInt8} (h : ((a.toNat : Nat) : Int) = ((b.toNat : Nat) : Int)) : a = b := UInt8.toNat_inj.1 (by omega)
def atS (B : List UInt8) (k : Nat) : Prop := B.length - 1 ≤ k ∧ k < 7 ∧ ∀ t, t < B.length → s7.getD (k - t) 0 = B.getD (B.length - 1 - t) 0
theorem jx {B : List UInt8} {i : Nat} (hB : 2 ≤ B.length) (h : Lib.indexByte (s7.drop (i + 1)) (B.getD (B.length - 1) 0) = -1) (hn : s7.getD i 0 ≠ B.getD (B.length - 1) 0) (hlt : ∀ k, k < i → ¬ atS B k) : ∀ k, ¬ atS B k := fun k hk => by
 have h0 : s7.getD k 0 = B.getD (B.length - 1) 0 := hk.2.2 0 (by omega)
 have hk7 := hk.2.1
 by_cases h1 : k < i
 ·
  exact hlt k h1 hk
 by_cases h2 : k = i
 ·
  subst h2; exact hn h0
 refine Lib.indexByte_none h (k - (i + 1)) ?_
 rw [List.getElem?_drop, show i + 1 + (k - (i + 1)) = k by omega, zh (by rw [zj]; exact hk7), h0]
theorem jd {B : List UInt8} {i o : Nat} (hB : 2 ≤ B.length) (h : Lib.indexByte (s7.drop (i + 1)) (B.getD (B.length - 1) 0) = ((o : Nat) : Int)) (hn : s7.getD i 0 ≠ B.getD (B.length - 1) 0) (hlt : ∀ k, k < i → ¬ atS B k) : i + o + 1 < 7 ∧ s7.getD (i + o + 1) 0 = B.getD (B.length - 1) 0 ∧ ∀ k, k < i + o + 1 → ¬ atS B k := by
 obtain ⟨h1, h2⟩ := Lib.indexByte_some h
 rw [List.getElem?_drop, show i + 1 + o = i + o + 1 by omega] at h1
 obtain ⟨h3, h4⟩ := List.getElem?_eq_some_iff.1 h1
 rw [zj] at h3
 have h5 := h1
 rw [zh (by rw [zj]; exact h3)] at h5
 refine ⟨h3, Option.some.inj h5, fun k hk hs => ?_⟩
 have h0 : s7.getD k 0 = B.getD (B.length - 1) 0 := hs.2.2 0 (by omega)
 by_cases h6 : k < i
 ·
  exact hlt k h6 hs
 by_cases h7 : k = i
 ·
  subst h7; exact hn h0
 refine h2 (k - (i + 1)) (by omega) ?_
 rw [List.getElem?_drop, show i + 1 + (k - (i + 1)) = k by omega, zh (by rw [zj]; omega), h0]
theorem jj {w : World} {i : Nat} (h1 : 1 ≤ i) (h : i ≤ 7) : Calls Tryz.prog 106 #[iV ((i : Nat) : Int)] w fun e w' => e = .returned (iV 2) ∧ Below w.heap.size w w' := by
 match i, h1, h with
 | 1, _, _ => exact cut_1
 | 2, _, _ => exact cut_2
 | 3, _, _ => exact cut_3
 | 4, _, _ => exact cut_4
 | 5, _, _ => exact cut_5
 | 6, _, _ => exact ju
 | 7, _, _ => exact jv
theorem jk {w : World} {r : Int} {B : List UInt8} (h2 : 2 ≤ B.length) (h4 : B.length ≤ 4) (h0 : 128 ≤ r) (hne : r ≠ 65533) (hv : Lib.validRune r = true) (henc : Utf8.encode r = tx B) : Calls Tryz.prog 71 #[.string (tx s7), .int .i32 r] w fun e w' => ∃ v : Int, e = .returned (iV v) ∧ (0 ≤ v ∧ (∃ k, atS B k) ∨ v < 0 ∧ ∀ k, ¬ atS B k) ∧ Below w.heap.size w w' := by
 have hs7 := zj
 have M : Mg w w ([]) := Mg.start w
 refine qr (l := [(0, .string ((tx s7))), (1, .int .i32 r)]) Tryz.func71 rfl Tryz.ntmps71 rfl rfl ?_
 intro Q hret hnorm hP a A
 refine wsk fun K1 hK1 => wrl (sda A λa A↦?_)
 refine qa (hK1 _ _ (wp_block (wsk fun K2 hK2 => wrl (sdm A λa A↦?_))))
 refine sdo (v := bV true) A (qb rfl rfl (fun w => (qn w).trans (by rw [show (decide (0 ≤ r)) = true from (decide_eq_true (by omega))]))) λa A↦?_
 iterate 2 refine sdm A λa A↦?_
 refine sdo (v := bV false) A (qb rfl rfl (fun w => (qw w).trans (by rw [show (decide (r < 128)) = false from (decide_eq_false (by omega))]))) λa A↦?_
 refine sdk (v := bV false) A λa A↦?_
 refine sda A λa A↦?_
 refine qa (hK2 _ _ (cf A ?_))
 refine wsk fun K3 hK3 => wrl (sdm A λa A↦?_)
 refine sdo (v := bV false) A (qb rfl rfl (fun w => (ze w).trans (by rw [show ((r == 65533)) = false from (beq_eq_false_iff_ne.2 (by omega))]))) λa A↦?_
 refine sda A λa A↦?_
 refine qa (hK3 _ _ (cf A ?_))
 refine wsk fun K4 hK4 => wrl (sdm A λa A↦?_)
 refine gcl A M (ef rfl rfl) (vr_as hv) fun w6 hb5 M a A => ?_
 refine sdo (v := bV false) A (zm rfl zr) λa A↦?_
 refine sda A λa A↦?_
 refine qa (hK4 _ _ (cf A ?_))
 refine zn 1 rfl ?_
 refine wsk fun K7 hK7 => wrl (sdm A λa A↦?_)
 refine sdo (v := .string ((tx B))) A (jh rfl (fun w => (run_convert_int_string w _ _ .i32 r (by kernel_rfl) Tryz.underlying9).trans (by rw [henc]))) λa A↦?_
 refine sda A λa A↦?_
 refine qa (hK7 _ _ (wsk fun K8 hK8 => wrl (sdm A λa A↦?_)))
 refine sdo (v := iV (((B.length : Nat) : Int))) A (zg (s := B) Tryz.underlying9 rfl) λa A↦?_
 refine sdo (v := iV (((B.length - 1 : Nat) : Int))) A (qb rfl rfl (ar_sub ((in_i64 (by omega) (by omega)).trans (by omega)))) λa A↦?_
 refine sda A λa A↦?_
 refine qa (hK8 _ _ (wsk fun K9 hK9 => wrl (sdm A λa A↦?_)))
 refine sda A λa A↦?_
 refine qa (hK9 _ _ (wsk fun K10 hK10 => wrl (sda A λa A↦?_)))
 refine qa (hK10 _ _ (wsk fun K11 hK11 => wp_block (zl (fun m_ a w1 => ∃ (i : Nat) (f : Nat), m_ = 8 - i ∧ (B.length - 1 ≤ i ∧ i ≤ 7 ∧ (∀ k, k < i → ¬ atS B k) ∧ (f = 0 ∨ f = 1 ∧ ∀ k, i ≤ k → k < 7 → s7.getD k 0 ≠ B.getD (B.length - 1) 0)) ∧ Sl a 187 [(0, .string ((tx s7))), (1, .int .i32 r), (7, .string ((tx B))), (8, iV (((B.length - 1 : Nat) : Int))), (9, iV (((i : Nat) : Int))), (10, iV (((f : Nat) : Int))), (17, .int .i32 r), (18, .string ((tx B))), (19, .string ((tx B))), (20, iV (((B.length : Nat) : Int))), (21, iV (((B.length - 1 : Nat) : Int))), (22, iV (((B.length - 1 : Nat) : Int))), (160, bV false), (161, .int .i32 r), (162, bV true), (163, bV true), (164, .int .i32 r), (165, bV false), (166, bV false), (171, bV false), (172, .int .i32 r), (173, bV false), (183, bV false), (184, .int .i32 r), (185, bV true), (186, bV false)] ∧ Mg w w1 ([])) _ ⟨B.length - 1, 0, rfl, ⟨Nat.le_refl _, by omega, fun k hk hs => absurd hs.1 (by omega), .inl rfl⟩, A.keep _ (by repeat' constructor), M⟩ ?_)))
 clear M A
 rintro m_ a w12 ⟨i, f, rfl, hinv14, A, M⟩ K13 hK13
 obtain ⟨hi1, hi2, hi3, hi4⟩ := hinv14
 refine wsk fun K15 hK15 => wsk fun K16 hK16 => wrl ?_
 iterate 2 refine sdm A λa A↦?_
 refine sdo (v := iV (((s7.length : Nat) : Int))) A (zg (s := s7) Tryz.underlying9 rfl) λa A↦?_
 rcases tf (decide (((i : Nat) : Int) < ((s7.length : Nat) : Int))) with hb17 | hb17
 ·
  have hb17' := of_decide_eq_true hb17
  refine sdc A qw hb17 λa A↦?_
  refine qa (hK16 _ _ (ct A ?_))
  refine wp_skip (hK15 _ _ (wp_block (zn 0 rfl ?_)))
  refine wsk fun K18 hK18 => ?_
  have hJ19 : ∀ a w1, (∃ (q : Nat), (B.length - 1 ≤ q ∧ i ≤ q ∧ q < 7 ∧ s7.getD q 0 = B.getD (B.length - 1) 0 ∧ (∀ k, k < q → ¬ atS B k) ∧ f = 0) ∧ Sl a 187 [(0, .string ((tx s7))), (1, .int .i32 r), (7, .string ((tx B))), (8, iV (((B.length - 1 : Nat) : Int))), (9, iV (((q : Nat) : Int))), (10, iV (((f : Nat) : Int))), (17, .int .i32 r), (18, .string ((tx B))), (19, .string ((tx B))), (20, iV (((B.length : Nat) : Int))), (21, iV (((B.length - 1 : Nat) : Int))), (22, iV (((B.length - 1 : Nat) : Int))), (23, iV (((i : Nat) : Int))), (24, .string ((tx s7))), (25, iV (((s7.length : Nat) : Int))), (26, bV true), (160, bV false), (161, .int .i32 r), (162, bV true), (163, bV true), (164, .int .i32 r), (165, bV false), (166, bV false), (171, bV false), (172, .int .i32 r), (173, bV false), (183, bV false), (184, .int .i32 r), (185, bV true), (186, bV false)] ∧ Mg w w1 ([])) → K18 a w1 := by
   clear A M
   rintro a w20 ⟨q, hf21, A, M⟩
   obtain ⟨hq1, hqi, hq2, hq3, hq4, hf0⟩ := hf21
   refine hK18 _ _ (wsk fun K22 hK22 => wsk fun K23 hK23 => wrl (sda A λa A↦?_))
   refine qa (hK23 _ _ (wp_block (zl (fun m_ a w1 => ∃ (j : Nat), m_ = B.length - j ∧ (1 ≤ j ∧ j ≤ B.length ∧ ∀ t, t < j → s7.getD (q - t) 0 = B.getD (B.length - 1 - t) 0) ∧ Sl a 187 [(0, .string ((tx s7))), (1, .int .i32 r), (7, .string ((tx B))), (8, iV (((B.length - 1 : Nat) : Int))), (9, iV (((q : Nat) : Int))), (10, iV (((f : Nat) : Int))), (12, iV (((j : Nat) : Int))), (17, .int .i32 r), (18, .string ((tx B))), (19, .string ((tx B))), (20, iV (((B.length : Nat) : Int))), (21, iV (((B.length - 1 : Nat) : Int))), (22, iV (((B.length - 1 : Nat) : Int))), (23, iV (((i : Nat) : Int))), (24, .string ((tx s7))), (25, iV (((s7.length : Nat) : Int))), (26, bV true), (160, bV false), (161, .int .i32 r), (162, bV true), (163, bV true), (164, .int .i32 r), (165, bV false), (166, bV false), (171, bV false), (172, .int .i32 r), (173, bV false), (183, bV false), (184, .int .i32 r), (185, bV true), (186, bV false)] ∧ Mg w w1 ([])) _ ⟨1, rfl, ⟨Nat.le_refl _, by omega, fun t ht => by rw [show t = 0 by omega]; exact hq3⟩, A.keep _ (by repeat' constructor), M⟩ ?_)))
   clear M A
   rintro m_ a w24 ⟨j, rfl, hinv26, A, M⟩ K25 hK25
   obtain ⟨hj1, hj2, hj3⟩ := hinv26
   refine wsk fun K27 hK27 => wsk fun K28 hK28 => wrl ?_
   iterate 2 refine sdm A λa A↦?_
   refine sdo (v := iV (((B.length : Nat) : Int))) A (zg (s := B) Tryz.underlying9 rfl) λa A↦?_
   rcases tf (decide (((j : Nat) : Int) < ((B.length : Nat) : Int))) with hb29 | hb29
   ·
    have hb29' := of_decide_eq_true hb29
    refine sdc A qw hb29 λa A↦?_
    refine qa (hK28 _ _ (ct A ?_))
    refine wp_skip (hK27 _ _ (wsk fun K30 hK30 => wp_block (wsk fun K31 hK31 => zi (S := fun w1 => Mg w w1 ([])) (by kernel_rfl) ?_)))
    replace M := M.drew
    refine amv A 0 rfl hP (M.sub ns) λa A↦?_
    refine amv A 1 rfl hP (M.sub ns) λa A↦?_
    refine amv A 2 rfl hP (M.sub ns) λa A↦?_
    refine atk (v := iV (((q - j : Nat) : Int))) A 3 rfl hP (M.sub ns) (λ_ M↦qb rfl rfl (ar_sub ((in_i64 (by omega) (by omega)).trans (by omega)))) λa A↦?_
    refine atk (v := .int .u8 ((((s7.getD (q - j) 0).toNat : Nat) : Int))) A 4 rfl hP (M.sub ns) (λ_ M↦zb (s := s7) (i := q - j) (b := s7.getD (q - j) 0) Tryz.underlying9 rfl rfl rfl (zh (by omega))) λa A↦?_
    refine amv A 5 rfl hP (M.sub ns) λa A↦?_
    refine amv A 6 rfl hP (M.sub ns) λa A↦?_
    refine amv A 7 rfl hP (M.sub ns) λa A↦?_
    refine atk (v := iV (((B.length - 1 - j : Nat) : Int))) A 8 rfl hP (M.sub ns) (λ_ M↦qb rfl rfl (ar_sub ((in_i64 (by omega) (by omega)).trans (by omega)))) λa A↦?_
    refine atk (v := .int .u8 ((((B.getD (B.length - 1 - j) 0).toNat : Nat) : Int))) A 9 rfl hP (M.sub ns) (λ_ M↦zb (s := B) (i := B.length - 1 - j) (b := B.getD (B.length - 1 - j) 0) Tryz.underlying9 rfl rfl rfl (zh (by omega))) λa A↦?_
    rcases tf (((((s7.getD (q - j) 0).toNat : Nat) : Int) != (((B.getD (B.length - 1 - j) 0).toNat : Nat) : Int))) with hb32 | hb32
    ·
     have hb32' := bne_iff_ne.1 hb32
     refine atk (v := bV true) A 10 rfl hP (M.sub ns) (λ_ M↦qb rfl rfl (fun w => (za w).trans (by rw [hb32]))) λa A↦?_
     refine qy (by kernel_rfl) ?_
     refine hK31 _ _ (ct A ?_)
     refine wp_goto (And.intro rfl ?_)
     refine wsk fun K33 hK33 => wp_skip (hK33 _ _ (wsk fun K34 hK34 => wrl (sdm A λa A↦?_)))
     refine sdo (v := iV (((f + 1 : Nat) : Int))) A (qb rfl rfl (ar_add ((in_i64 (by omega) (by omega)).trans (by omega)))) λa A↦?_
     refine sda A λa A↦?_
     refine qa (hK34 _ _ (wsk fun K35 hK35 => wrl (sdm A λa A↦?_)))
     refine sdo (v := iV (((q + 1 : Nat) : Int))) A (qb rfl rfl (ar_add ((in_i64 (by omega) (by omega)).trans (by omega)))) λa A↦?_
     refine sda A λa A↦?_
     refine qa (hK35 _ _ (wsk fun K36 hK36 => wrl ?_))
     iterate 3 refine sdm A λa A↦?_
     refine gcl A M (ef rfl rfl) (jj (by omega) (by omega)) fun w38 hb37 M a A => ?_
     refine sdo (v := bV false) A (qb rfl rfl (fun w => (qx w).trans (by rw [show (decide (2 < ((f + 1 : Nat) : Int))) = false from (decide_eq_false (by omega))]))) λa A↦?_
     refine sdk (v := bV false) A λa A↦?_
     refine sdm A λa A↦?_
     iterate 4 refine qg A rfl rfl rfl λa A↦?_
     refine sdk (v := bV false) A λa A↦?_
     iterate 2 refine sdm A λa A↦?_
     iterate 5 refine qg A rfl rfl rfl λa A↦?_
     refine sdk (v := bV false) A λa A↦?_
     refine sdm A λa A↦?_
     iterate 4 refine qg A rfl rfl rfl λa A↦?_
     iterate 2 refine sdk (v := bV false) A λa A↦?_
     refine qa (hK36 _ _ (cf A ?_))
     refine wp_skip ?_
     refine hK13 _ _ _ (by omega) ⟨q + 1, f + 1, rfl, ⟨by omega, by omega, fun k hk hs => by by_cases h9 : k < q; exact hq4 k h9 hs; rw [show k = q by omega] at hs; exact bne_iff_ne.1 hb32 (by rw [hs.2.2 j (by omega)]), .inr ⟨by omega, fun k h8 h9 k9 => jw (i := q) (k := k) (by omega) h9 (hq3.trans k9.symm)⟩⟩, A.keep _ (by repeat' constructor), M⟩
    ·
     have hb32' := bne_eq_false_iff_eq.1 hb32
     refine atk (v := bV false) A 10 rfl hP (M.sub ns) (λ_ M↦qb rfl rfl (fun w => (za w).trans (by rw [hb32]))) λa A↦?_
     refine qy (by kernel_rfl) ?_
     refine hK31 _ _ (cf A ?_)
     refine wp_skip (hK30 _ _ (wrl (sdm A λa A↦?_)))
     refine sdo (v := iV (((j + 1 : Nat) : Int))) A (qb rfl rfl (ar_add ((in_i64 (by omega) (by omega)).trans (by omega)))) λa A↦?_
     refine sda A λa A↦?_
     refine qa ?_
     refine hK25 _ _ _ (by omega) ⟨j + 1, rfl, ⟨by omega, by omega, fun t ht => by by_cases h9 : t < j; exact hj3 t h9; rw [show t = j by omega]; exact zk (by simpa using hb32)⟩, A.keep _ (by repeat' constructor), M⟩
   ·
    have hb29' := of_decide_eq_false hb29
    refine sdc A qw hb29 λa A↦?_
    refine qa (hK28 _ _ (cf A ?_))
    refine wp_exit (hK22 _ _ (wsk fun K39 hK39 => wsk fun K40 hK40 => wrl ?_))
    iterate 2 refine sdm A λa A↦?_
    refine sdo (v := iV (((q - (B.length - 1) : Nat) : Int))) A (qb rfl rfl (ar_sub ((in_i64 (by omega) (by omega)).trans (by omega)))) λa A↦?_
    refine sda A λa A↦?_
    refine qa (hK40 _ _ (wr1 hret A ?_))
    exact ⟨_, rfl, .inl ⟨by omega, q, hq1, hq2, fun t ht => hj3 t (by have h9 := of_decide_eq_false hb29; omega)⟩, M.bel⟩
  refine wsk fun K41 hK41 => zi (S := fun w1 => Mg w w1 ([])) (by kernel_rfl) ?_
  replace M := M.drew
  refine amv A 0 rfl hP (M.sub ns) λa A↦?_
  refine amv A 1 rfl hP (M.sub ns) λa A↦?_
  refine atk (v := .int .u8 ((((s7.getD i 0).toNat : Nat) : Int))) A 2 rfl hP (M.sub ns) (λ_ M↦zb (s := s7) (i := i) (b := s7.getD i 0) Tryz.underlying9 rfl rfl rfl (zh (by omega))) λa A↦?_
  refine amv A 3 rfl hP (M.sub ns) λa A↦?_
  refine amv A 4 rfl hP (M.sub ns) λa A↦?_
  refine atk (v := .int .u8 ((((B.getD (B.length - 1) 0).toNat : Nat) : Int))) A 5 rfl hP (M.sub ns) (λ_ M↦zb (s := B) (i := B.length - 1) (b := B.getD (B.length - 1) 0) Tryz.underlying9 rfl rfl rfl (zh (by omega))) λa A↦?_
  rcases tf (((((s7.getD i 0).toNat : Nat) : Int) != (((B.getD (B.length - 1) 0).toNat : Nat) : Int))) with hb42 | hb42
  ·
   have hb42' := bne_iff_ne.1 hb42
   refine atk (v := bV true) A 6 rfl hP (M.sub ns) (λ_ M↦qb rfl rfl (fun w => (za w).trans (by rw [hb42]))) λa A↦?_
   refine qy (by kernel_rfl) ?_
   refine hK41 _ _ (ct A ?_)
   refine wsk fun K43 hK43 => zi (S := fun w1 => Mg w w1 ([])) (by kernel_rfl) ?_
   replace M := M.drew
   refine amv A 0 rfl hP (M.sub ns) λa A↦?_
   refine amv A 1 rfl hP (M.sub ns) λa A↦?_
   refine atk (v := iV (((i + 1 : Nat) : Int))) A 2 rfl hP (M.sub ns) (λ_ M↦qb rfl rfl (ar_add ((in_i64 (by omega) (by omega)).trans (by omega)))) λa A↦?_
   refine atk (v := .string ((tx (s7.drop (i + 1))))) A 3 rfl hP (M.sub ns) (λ_ M↦qs (s := s7) (p := i + 1) Tryz.underlying9 rfl rfl rfl (by omega)) λa A↦?_
   refine amv A 4 rfl hP (M.sub ns) λa A↦?_
   refine amv A 5 rfl hP (M.sub ns) λa A↦?_
   refine atk (v := .int .u8 ((((B.getD (B.length - 1) 0).toNat : Nat) : Int))) A 6 rfl hP (M.sub ns) (λ_ M↦zb (s := B) (i := B.length - 1) (b := B.getD (B.length - 1) 0) Tryz.underlying9 rfl rfl rfl (zh (by omega))) λa A↦?_
   rcases tf (decide (0 ≤ Lib.indexByte (s7.drop (i + 1)) (B.getD (B.length - 1) 0))) with hb45 | hb45
   ·
    have hb45' := of_decide_eq_true hb45
    obtain ⟨o, ho47⟩ := Int.eq_ofNat_of_zero_le (of_decide_eq_true hb45)
    have hoB := (jd h2 ho47 (fun k9 => bne_iff_ne.1 hb42 (by rw [k9])) hi3).1
    refine zv (by kernel_rfl) (ji A 7 rfl rfl rfl rfl (ef rfl rfl) (ib_as (l := s7.drop (i + 1)) (b := B.getD (B.length - 1) 0) ho47) ?_)
    rintro _ w48 ⟨rfl, hb46⟩
    replace M := M.call hb46
    refine ⟨_, rfl, (M.sub ns), ?_⟩
    intro a A
    refine atk A 8 rfl hP (M.sub ns) (λ_ M↦zd rfl) λa A↦?_
    refine qy (by kernel_rfl) ?_
    refine hK43 _ _ (wsk fun K49 hK49 => wsk fun K50 hK50 => wrl (sdm A λa A↦?_))
    refine sdo (v := bV false) A (qb rfl rfl (fun w => (qw w).trans (by rw [show (decide (((o : Nat) : Int) < 0)) = false from (decide_eq_false (by omega))]))) λa A↦?_
    refine qa (hK50 _ _ (cf A ?_))
    refine wp_skip (hK49 _ _ (wrl ?_))
    iterate 2 refine sdm A λa A↦?_
    refine sdo (v := iV (((o + 1 : Nat) : Int))) A (qb rfl rfl (ar_add ((in_i64 (by omega) (by omega)).trans (by omega)))) λa A↦?_
    refine sdo (v := iV (((i + o + 1 : Nat) : Int))) A (qb rfl rfl (ar_add ((in_i64 (by omega) (by omega)).trans (by omega)))) λa A↦?_
    refine sda A λa A↦?_
    refine qa ?_
    exact hJ19 _ _ ⟨i + o + 1, (by obtain ⟨y1, y2, y3⟩ := jd h2 ho47 (fun k9 => bne_iff_ne.1 hb42 (by rw [k9])) hi3; exact ⟨by omega, by omega, y1, y2, y3, hi4.elim id fun k => absurd y2 (k.2 _ (by omega) y1)⟩), A.keep _ (by repeat' constructor), M⟩
   ·
    have hb45' := of_decide_eq_false hb45
    have ho52 : Lib.indexByte (s7.drop (i + 1)) (B.getD (B.length - 1) 0) = -1 := by have h8 := Lib.indexByte_ge (s7.drop (i + 1)) (B.getD (B.length - 1) 0); have h9 := of_decide_eq_false hb45; omega
    refine zv (by kernel_rfl) (ji A 7 rfl rfl rfl rfl (ef rfl rfl) (ib_as (l := s7.drop (i + 1)) (b := B.getD (B.length - 1) 0) ho52) ?_)
    rintro _ w53 ⟨rfl, hb51⟩
    replace M := M.call hb51
    refine ⟨_, rfl, (M.sub ns), ?_⟩
    intro a A
    refine atk A 8 rfl hP (M.sub ns) (λ_ M↦zd rfl) λa A↦?_
    refine qy (by kernel_rfl) ?_
    refine hK43 _ _ (wsk fun K54 hK54 => wsk fun K55 hK55 => wrl (sdm A λa A↦?_))
    refine sdo (v := bV true) A dbK λa A↦?_
    refine qa (hK55 _ _ (ct A ?_))
    refine wsk fun K56 hK56 => wrl (sda A λa A↦?_)
    refine qa (hK56 _ _ (wr1 hret A ?_))
    exact ⟨_, rfl, .inr ⟨by decide, jx h2 ho52 (fun k9 => bne_iff_ne.1 hb42 (by rw [k9])) hi3⟩, M.bel⟩
  ·
   have hb42' := bne_eq_false_iff_eq.1 hb42
   refine atk (v := bV false) A 6 rfl hP (M.sub ns) (λ_ M↦qb rfl rfl (fun w => (za w).trans (by rw [hb42]))) λa A↦?_
   refine qy (by kernel_rfl) ?_
   refine hK41 _ _ (cf A ?_)
   refine wp_skip ?_
   exact hJ19 _ _ ⟨i, (by have y2 : s7.getD i 0 = B.getD (B.length - 1) 0 := zk (by simpa using hb42); exact ⟨hi1, Nat.le_refl _, by omega, y2, hi3, hi4.elim id fun k => absurd y2 (k.2 _ (Nat.le_refl _) (by omega))⟩), A.keep _ (by repeat' constructor), M⟩
 ·
  have hb17' := of_decide_eq_false hb17
  refine sdc A qw hb17 λa A↦?_
  refine qa (hK16 _ _ (cf A ?_))
  refine wp_exit (hK11 _ _ (wsk fun K57 hK57 => wsk fun K58 hK58 => wrl (sda A λa A↦?_)))
  refine qa (hK58 _ _ (wr1 hret A ?_))
  exact ⟨_, rfl, .inr ⟨by decide, fun k hk => hi3 k (by have h8 := hk.2.1; have h9 := of_decide_eq_false hb17; omega) hk⟩, M.bel⟩
theorem zp {w : World} {r : Int} {B : List UInt8} (h2 : 2 ≤ B.length) (h4 : B.length ≤ 4) (h0 : 128 ≤ r) (hne : r ≠ 65533) (hv : Lib.validRune r = true) (henc : Utf8.encode r = tx B) (hx : (∃ k, atS B k) ↔ ln7 r = true) : Calls Tryz.prog 71 #[.string (tx s7), .int .i32 r] w fun e w' => ∃ v : Int, e = .returned (iV v) ∧ decide (0 ≤ v) = ln7 r ∧ Below w.heap.size w w' := (jk h2 h4 h0 hne hv henc).mono fun e w' ⟨v, h1, h3, h5⟩ => by
 refine ⟨v, h1, ?_, h5⟩
 rcases h3 with ⟨h6, h7⟩ | ⟨h6, h7⟩
 ·
  rw [hx.1 h7]; exact decide_eq_true h6
 ·
  rw [show ln7 r = false from Bool.eq_false_iff.2 fun k => (hx.2 k).elim h7]; exact decide_eq_false (by omega)
theorem je {k : Nat} (h : k < 7) : k = 0 ∨ k = 1 ∨ k = 2 ∨ k = 3 ∨ k = 4 ∨ k = 5 ∨ k = 6 := by omega
theorem xe {r : Int} {b0 b1 : UInt8} (h0 : 128 ≤ r) (h1 : r ≤ 2047) (e0 : ((b0.toNat : Nat) : Int) = 192 + r / 64) (e1 : ((b1.toNat : Nat) : Int) = 128 + r % 64) : (∃ k, atS [b0, b1] k) ↔ ln7 r = true := by
 constructor
 ·
  rintro ⟨k, q1, q2, q3⟩
  have z1 : s7.getD k 0 = b1 := q3 0 (by simp)
  have z0 : s7.getD (k - 1) 0 = b0 := q3 1 (by simp)
  subst z1 z0
  apply decide_eq_true
  rcases je q2 with rfl | rfl | rfl | rfl | rfl | rfl | rfl <;> simp [s7] at e0 e1 <;> omega
 ·
  intro h
  have hr : r = 133 := by have := of_decide_eq_true h; omega
  subst hr
  obtain rfl : b0 = 194 := zk (e0.trans (by decide))
  obtain rfl : b1 = 133 := zk (e1.trans (by decide))
  exact ⟨3, by decide, by decide, by decide⟩
theorem xf {r : Int} {b0 b1 b2 : UInt8} (h0 : 2048 ≤ r) (h1 : r ≤ 65535) (e0 : ((b0.toNat : Nat) : Int) = 224 + r / 4096) (e1 : ((b1.toNat : Nat) : Int) = 128 + r / 64 % 64) (e2 : ((b2.toNat : Nat) : Int) = 128 + r % 64) : (∃ k, atS [b0, b1, b2] k) ↔ ln7 r = true := by
 constructor
 ·
  rintro ⟨k, q1, q2, q3⟩
  have z2 : s7.getD k 0 = b2 := q3 0 (by simp)
  have z1 : s7.getD (k - 1) 0 = b1 := q3 1 (by simp)
  have z0 : s7.getD (k - 2) 0 = b0 := q3 2 (by simp)
  subst z2 z1 z0
  apply decide_eq_true
  rcases je q2 with rfl | rfl | rfl | rfl | rfl | rfl | rfl <;> simp [s7] at e0 e1 e2 <;> omega
 ·
  intro h
  have hr : r = 8232 := by have := of_decide_eq_true h; omega
  subst hr
  obtain rfl : b0 = 226 := zk (e0.trans (by decide))
  obtain rfl : b1 = 128 := zk (e1.trans (by decide))
  obtain rfl : b2 = 168 := zk (e2.trans (by decide))
  exact ⟨6, by decide, by decide, by decide⟩
theorem xg {r : Int} {b0 b1 b2 b3 : UInt8} (h0 : 65536 ≤ r) (h1 : r ≤ 1114111) (e0 : ((b0.toNat : Nat) : Int) = 240 + r / 262144) : (∃ k, atS [b0, b1, b2, b3] k) ↔ ln7 r = true := by
 constructor
 ·
  rintro ⟨k, q1, q2, q3⟩
  have z0 : s7.getD (k - 3) 0 = b0 := q3 3 (by simp)
  subst z0
  exfalso
  rcases je q2 with rfl | rfl | rfl | rfl | rfl | rfl | rfl <;> simp [s7] at e0 <;> omega
 ·
  intro h
  have := of_decide_eq_true h
  omega
theorem jo {w : World} {r : Int} (h : C.OkR r) : Calls Tryz.prog 71 #[.string (tx [10, 13, 194, 133, 226, 128, 168]), .int .i32 r] w fun e w' => ∃ v : Int, e = .returned (iV v) ∧ decide (0 ≤ v) = ln7 r ∧ Below w.heap.size w w' := by
 by_cases h128 : r < 128
 ·
  have h0 : 0 ≤ r := by unfold C.OkR at h; omega
  refine (Tryz.strings_IndexRune_ascii (tx [10, 13, 194, 133, 226, 128, 168]) r w h0 h128).mono ?_
  rintro e w' ⟨rfl, rfl⟩
  have := C.ix7 r.toNat (by omega)
  rw [Int.toNat_of_nonneg h0] at this
  exact ⟨_, rfl, this, Below.refl _ _⟩
 ·
  by_cases he : r = 65533
  ·
   subst he
   refine (C.irune_err7 w).mono ?_
   rintro e w' ⟨rfl, hb⟩
   exact ⟨_, rfl, by decide, hb⟩
  ·
   have hv := h.valid
   unfold C.OkR at h
   by_cases h2 : r ≤ 2047
   ·
    exact zp (by simp) (by simp) (by omega) he hv (enc_tx hv (by unfold Lib.encodeRune; rw [Lib.encodeRuneZ_two (by omega) h2]; rfl)) (xe (by omega) h2 (byte_of (x := 192 + r / 64) (by omega) (by omega)) (byte_of (x := 128 + r % 64) (by omega) (by omega)))
   ·
    by_cases h3 : r ≤ 65535
    ·
     exact zp (by simp) (by simp) (by omega) he hv (enc_tx hv (by unfold Lib.encodeRune; rw [Lib.encodeRuneZ_three (by omega)]; rfl)) (xf (by omega) h3 (byte_of (x := 224 + r / 4096) (by omega) (by omega)) (byte_of (x := 128 + r / 64 % 64) (by omega) (by omega)) (byte_of (x := 128 + r % 64) (by omega) (by omega)))
    ·
     exact zp (by simp) (by simp) (by omega) he hv (enc_tx hv (by unfold Lib.encodeRune; rw [Lib.encodeRuneZ_four (by omega) (by omega)]; rfl)) (xg (by omega) (by omega) (byte_of (x := 240 + r / 262144) (by omega) (by omega)))
def lnX (l : List UInt8) : Nat := C.lnN l.length l
theorem zu {w : World} {l : List UInt8} (hl : l.length < 4294967281) : Calls Tryz.prog 51 #[.string (tx l), .string (tx [10, 13, 194, 133, 226, 128, 168])] w fun e w' => (∃ v : Int, e = .returned (iV v) ∧ (v = ((lnX l : Nat) : Int) ∧ lnX l < l.length ∨ v = -1 ∧ lnX l = l.length)) ∧ Below w.heap.size w w' := by
 have := C.iany7 (tx l) (fun r w h => jo h) w (by rw [jf]; exact hl)
 rwa [jf, xd] at this
theorem xh {w : World} {l : List UInt8} (hl : l.length < 4294967281) (h : decide (lnX l < l.length) = true) : Calls Tryz.prog 51 #[.string (tx l), .string (tx [10, 13, 194, 133, 226, 128, 168])] w fun e w' => e = .returned (iV ((lnX l : Nat) : Int)) ∧ Below w.heap.size w w' := (zu hl).mono fun e w' h1 => by
 obtain ⟨⟨v, rfl, h2 | h2⟩, hb⟩ := h1
 ·
  exact ⟨by rw [h2.1], hb⟩
 ·
  exact absurd (of_decide_eq_true h) (by omega)
theorem xi {w : World} {l : List UInt8} (hl : l.length < 4294967281) (h : decide (lnX l < l.length) = false) : Calls Tryz.prog 51 #[.string (tx l), .string (tx [10, 13, 194, 133, 226, 128, 168])] w fun e w' => e = .returned (iV (-1)) ∧ lnX l = l.length ∧ Below w.heap.size w w' := (zu hl).mono fun e w' h1 => by
 obtain ⟨⟨v, rfl, h2 | h2⟩, hb⟩ := h1
 ·
  exact absurd h2.2 (of_decide_eq_false h)
 ·
  exact ⟨by rw [h2.1], h2.2, hb⟩
end Go.Proofs.YtclkfideaameoaaGreatDoor.G
