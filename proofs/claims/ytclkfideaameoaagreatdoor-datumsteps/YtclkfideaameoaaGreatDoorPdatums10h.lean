/- Pn Pt ShelfR RdA RdB RdD ChM ChA ShelfD ShelfB ChD ChE ChF ChR RdE RdF Ps ShelfI ChS RdG RdH ShelfP ChU ChV Tn Tr Ts TrA TrB RdI -/
import Derived.Test.YtclkfideaameoaaGreatDoorPdatums10f
import Derived.Shelf.Strings.Builder1
import Derived.Shelf.Small.Utf8
import Derived.Shelf.Small.Bits
import Derived.Shelf.Small.Strs
import Derived.Shelf.Small.Wraps
import Derived.Shelf.Strings.BuilderF
import Derived.Shelf.Strings.BuilderK
import Derived.Shelf.Strings.BuilderRune
import Derived.Shelf.Utf8.AppendRunePlain
import Derived.Shelf.Utf8.RuneCount
import Derived.Shelf.Strconv.Itoa0
import Derived.Shelf.Strconv.Itoa1
import Derived.Shelf.LaysM
import Derived.Shelf.Strconv.Itoa2
import Derived.Shelf.Strconv.Itoa3
import Derived.Shelf.Strconv.Clone
import Derived.Shelf.Strconv.SyntaxError
import Derived.Shelf.LaysC
import Derived.Shelf.Strconv.ToError
import Derived.Shelf.Strconv.Lower
import Derived.Shelf.Strconv.RangeError
import Derived.Shelf.Strconv.ToErrorRange
import Derived.Shelf.Strings.Search1
import Derived.Shelf.Strings.Search2
import Derived.Shelf.Strings.Cut
import Derived.Shelf.Strings.Shaped
import Derived.Shelf.Strings.Prefix
import Derived.Shelf.Strings.Runes
import Derived.Shelf.Strings.IndexAny
import Derived.Shelf.Strings.AsciiSet
import Derived.Shelf.Strings.IndexAnyAll
import Derived.Shelf.Unicode.DecodeSlow
import Derived.Shelf.Unicode.DecodeAny
import Derived.Test.YtclkfideaameoaaGreatDoorProg
import Derived.Lib.RuneBytes
import Derived.RowKit
import Derived.WalkKit
import Derived.WalkSpells
import Derived.Deep.Light
import Derived.Shelf.Unicode.ValidAny
import Derived.Lib.TrimAscii
import Derived.Test.YtclkfideaameoaaGreatDoorShelf
import Derived.Laws.Runes
import Derived.Laws.Strings3
import Derived.Scope
import Derived.Shelf.RegionOpenPlain
import Derived.ScopeJumps
import Derived.Lib.TrimUEq
import Derived.Lib.OthersKept
import Derived.Test.YtclkfideaameoaaGreatDoorOwn
import Derived.Lib.Strings
import Derived.Lib.Walk
import Derived.Lib.ConvBytes
import Derived.Lib.ParseIntBMem
import Derived.Lib.Hide
import Derived.Laws.Closers25
import Derived.Laws.Closers25b
import Derived.BigCall
import Derived.BigGuard
import Derived.Test.YtclkfideaameoaaGreatDoorPdatums10d
import Derived.Test.YtclkfideaameoaaGreatDoorPdatums10g
import Derived.Lib.ValidU
set_option linter.unusedVariables false
set_option linter.unusedSimpArgs false
set_option maxHeartbeats 1000000
namespace Go.Proofs.YtclkfideaameoaaGreatDoor.G
open Go.RowKit
section
variable {P : Program} {ops : List Oper} {Q : Exit → Act → World → Prop} {a : Act} {w : World} {n : Nat} {l : List (Nat × Value)} {o : Oper} {rest : List Oper}
theorem qz (hA : Sl a n l) (hg : zk l ops o = true) {d : Nat} (hdst : o.dst = some d) (hd : Nat.blt d n = true) {f : FuncId} {vs : List Value} (he : Enters P l o w f vs)
    {R : Ending → World → Prop} (hc : Calls P f vs.toArray w R)
    (hk : ∀ e w', R e w' → (∃ ch, e = .panicked ch ∧ Q (.panic ch) a w') ∨ ∃ v, e = .returned v ∧ ∀ a', Sl a' n ((d, v) :: l) → wpList P ops.toArray Q rest a' w') : wpList P ops.toArray Q (o :: rest) a w := by
  unfold wpList
  rw [if_pos (hA.wanted hg)]
  refine .inl ?_
  unfold Oper.wp
  rw [he a.eval (fun x u hx => hA.ev hx), Oper.upon_enter]
  refine hc.mono ?_
  intro e w' hR
  rcases hk e w' hR with ⟨ch, rfl, h⟩ | ⟨v, rfl, h⟩
  · exact h
  · simp only [hdst]
    exact h _ (hA.put hd v)
theorem zfh (hA : Sl a n l) (hg : zk l ops o = true) {v : Value} (he : ∀ ρ : Operand → Value, (∀ x u, ev l x = some u → ρ x = u) → (execOp ρ o).run P w = .halt (.panic v) w) (hk : Q (.panic [{ v := v, recovered := false }]) a w) : wpList P ops.toArray Q (o :: rest) a w := by
  unfold wpList
  rw [if_pos (hA.wanted hg)]
  refine .inl ?_
  unfold Oper.wp
  rw [he a.eval (fun x u hx => hA.ev hx), Oper.upon_panic]
  exact hk
theorem jr {f : FuncId} {fn : Func} {c : Code} {args : List Value} {Z : Ending → World → Prop} (hf : P.funcs[f]? = some fn) (hb : fn.body = some c) (hn : fn.ntmps = n) (hl : Nat.ble args.length n = true) (hs : (args.zipIdx.map fun p => (p.2, p.1)) = l)
    (h : ∀ Q : Exit → Act → World → Prop, (∀ a w, bodyPost P fn Z .ret a w → Q .ret a w) → (∀ a w, bodyPost P fn Z .ret a w → Q .normal a w) → (∀ c a d v w, Q (.panic c) (Act.put a d v) w → Q (.panic c) a w) → (∀ ch a w m k, Sl a m k → Z (.panicked ch) w → Q (.panic ch) a w) → ∀ a, Sl a n l → c.wp P Q a w) : Calls P f args.toArray w Z := by
  subst hs
  refine calls_of_wp hf hb (h _ (fun _ _ h => h) (fun _ _ h => h) (fun c a d v w h => ?_) (fun ch a w m k hA hz => ⟨hA.none_, hz⟩) _ ?_)
  · cases d <;> exact h
  · rw [hn]
    exact Sl.enter (Nat.le_of_ble_eq_true hl)
end
def tx (l : List UInt8) : ByteArray := ⟨l.toArray⟩
abbrev rC (L : List UInt8) (p : Nat) (b : Bool) : Obj := .cells #[.string (tx L), .int .i64 ((p : Nat) : Int), .bool b] 50
theorem zvj (s : ByteArray) : tx s.data.toList = s := by unfold tx; cases s; simp
theorem xg (l : List UInt8) : (tx l).size = l.length := by unfold tx; simp [ByteArray.size]
theorem xi (l : List UInt8) : (tx l).data.toList = l := by unfold tx; simp
section
variable {P : Program} {l : List (Nat × Value)} {dst : Option Tmp} {ty t : TypeId} {pos : String} {after : Array Edge} {guard : Option (Nat × Bool)} {w : World} {x y z : Operand} {s : List UInt8}
theorem qy (ht : P.underlying t = some .string) (hx : ev l x = some (.string (tx s))) : Does P l ⟨dst, .call ⟨.builtin .len, #[x], #[t]⟩, ty, pos, after, guard⟩ w (.int .i64 ((s.length : Nat) : Int)) w := fun ρ h => by
  have := h x _ hx
  rw [← xg]
  simp [go_sem, this, Builtin.len_, run_underlying ht, goInt]
theorem qx {i : Nat} {k : Int} {b : UInt8} (ht : P.underlying t = some .string) (hx : ev l x = some (.string (tx s))) (hy : ev l y = some (.int .i64 k)) (hk : k = ((i : Nat) : Int)) (hi : s[i]? = some b) : Does P l ⟨dst, .index t x y, ty, pos, after, guard⟩ w (.int .u8 ((b.toNat : Nat) : Int)) w := fun ρ h => by
  subst hk
  have := run_index_string (P := P) w t (tx s) .i64 ((i : Nat) : Int) ht
  have hl := (List.getElem?_eq_some_iff.1 hi).1
  have hi' : i < (tx s).size := by rw [xg]; exact hl
  have e : b.toNat = ((tx s)[i]'hi').toNat := by
    have h2 := (List.getElem?_eq_some_iff.1 hi).2
    rw [← h2]
    simp [tx, ByteArray.getElem_eq_getElem_data]
  rw [e]
  simp [execOp, h x _ hx, h y _ hy, this, hi']
theorem qwf (s : List UInt8) (a b : Nat) (hb : b ≤ s.length) : (tx s).extract a b = tx ((s.take b).drop a) := by
  apply ByteArray.ext
  rw [ByteArray.data_extract]
  simp [tx, List.drop_take]
theorem ja {p : Nat} {k : Int} (ht : P.underlying t = some .string) (hx : ev l x = some (.string (tx s))) (hy : ev l y = some (.int .i64 k)) (hk : k = ((p : Nat) : Int)) (hp : p ≤ s.length) : Does P l ⟨dst, .slice t x (some y) none none, ty, pos, after, guard⟩ w (.string (tx (s.drop p))) w := fun ρ h => by
  subst hk
  have e : tx (s.drop p) = (tx s).extract p (tx s).size := by rw [xg, qwf _ _ _ (Nat.le_refl _), List.take_length]
  rw [e]
  have h0 : p ≤ (tx s).size := by rw [xg]; exact hp
  have h1 : (0 : Int) ≤ (p : Nat) ∧ ((p : Nat) : Int) ≤ ((tx s).size : Int) := ⟨by omega, by omega⟩
  simp [execOp, h x _ hx, h y _ hy, Instr.sliceAt, Instr.slice, Instr.sliceBounds, Instr.sliceBound, asIntOf, run_underlying ht, h1]
  try (intro hc; omega)
theorem qcc {p : Nat} {k : Int} (ht : P.underlying t = some .string) (hx : ev l x = some (.string (tx s))) (hy : ev l y = some (.int .i64 k)) (hk : k = ((p : Nat) : Int)) (hp : p ≤ s.length) : Does P l ⟨dst, .slice t x none (some y) none, ty, pos, after, guard⟩ w (.string (tx (s.take p))) w := fun ρ h => by
  subst hk
  have e : tx (s.take p) = (tx s).extract 0 p := by rw [qwf _ _ _ hp, List.drop_zero]
  rw [e]
  have h0 : p ≤ (tx s).size := by rw [xg]; exact hp
  have h1 : (0 : Int) ≤ (p : Nat) ∧ ((p : Nat) : Int) ≤ ((tx s).size : Int) := ⟨by omega, by omega⟩
  simp [execOp, h x _ hx, h y _ hy, Instr.sliceAt, Instr.slice, Instr.sliceBounds, Instr.sliceBound, asIntOf, run_underlying ht, h1]
  try (intro hc; omega)
theorem qwg {p q : Nat} {k m : Int} (ht : P.underlying t = some .string) (hx : ev l x = some (.string (tx s))) (hy : ev l y = some (.int .i64 k)) (hz : ev l z = some (.int .i64 m)) (hk : k = ((p : Nat) : Int)) (hm : m = ((q : Nat) : Int)) (hp : p ≤ q) (hq : q ≤ s.length) : Does P l ⟨dst, .slice t x (some y) (some z) none, ty, pos, after, guard⟩ w (.string (tx ((s.take q).drop p))) w := fun ρ h => by
  subst hk hm
  have e : tx ((s.take q).drop p) = (tx s).extract p q := by rw [qwf _ _ _ hq]
  rw [e]
  have h0 : q ≤ (tx s).size := by rw [xg]; exact hq
  have h1 : (0 : Int) ≤ (p : Nat) ∧ ((p : Nat) : Int) ≤ ((q : Nat) : Int) ∧ ((q : Nat) : Int) ≤ ((tx s).size : Int) := ⟨by omega, by omega, by omega⟩
  have h2 : (0 : Int) ≤ (q : Nat) := by omega
  simp [execOp, h x _ hx, h y _ hy, h z _ hz, Instr.sliceAt, Instr.slice, Instr.sliceBounds, Instr.sliceBound, asIntOf, run_underlying ht, h1, h2]
  rw [if_pos h0, if_pos hp]
theorem jb {a : Addr} (hx : ev l x = some (.pointer (some a))) : Does P l ⟨dst, .nilCheck x, ty, pos, after, guard⟩ w (.pointer (some a)) w := fun ρ h => by
  simp only [execOp, h x _ hx, Sem.run_pure]
variable {a b : List UInt8}
theorem zwa (a b : List UInt8) : ((tx a).toList == (tx b).toList) = decide (a = b) := by
  rw [ByteArray.toList_eq, ByteArray.toList_eq, xi, xi]
  by_cases h : a = b
  · subst h; simp
  · rw [decide_eq_false h]; exact beq_false_of_ne h
theorem zl (hu : P.underlying t = some .string) : ∀ w, (do eqGuard .eql t x y (.string (tx a)) (.string (tx b)); binOp .eql t (.string (tx a)) (.string (tx b)) : Sem Value).run P w = .ok (.bool (decide (a = b))) w := fun w => by
  rw [← zwa]
  simp [go_sem, hu, run_underlying hu]
theorem zji (hu : P.underlying t = some .string) : ∀ w, (do eqGuard .neq t x y (.string (tx a)) (.string (tx b)); binOp .neq t (.string (tx a)) (.string (tx b)) : Sem Value).run P w = .ok (.bool (!(decide (a = b)))) w := fun w => by
  rw [← zwa]
  simp [go_sem, hu, run_underlying hu]
end
end Go.Proofs.YtclkfideaameoaaGreatDoor.G
namespace Go.Proofs
open Go.Shelf
def Tryz.lays145_ren : Go.Shelf.Ren := ⟨fun | 145 => 112 | 220 => 137 | 219 => 155 | 217 => 133 | 225 => 107 | 224 => 106 | 267 => 177 | 266 => 152 | 314 => 190 | n => n, fun | 9 => 9 | 4 => 4 | 59 => 135 | 3 => 3 | 5 => 5 | 46 => 71 | 146 => 187 | 51 => 99 | n => n, fun | 1 => 2 | n => n⟩
theorem Tryz.lays145 : Go.Proofs.Lays.n145 Tryz.prog Tryz.lays145_ren := {
  mixed := by kernel_rfl
  f145 := Tryz.func112.trans (congrArg some (by kernel_rfl))
  f217 := Tryz.func133.trans (congrArg some (by kernel_rfl))
  f219 := Tryz.func155.trans (congrArg some (by kernel_rfl))
  f220 := Tryz.func137.trans (congrArg some (by kernel_rfl))
  f224 := Tryz.func106.trans (congrArg some (by kernel_rfl))
  f225 := Tryz.func107.trans (congrArg some (by kernel_rfl))
  f266 := Tryz.func152.trans (congrArg some (by kernel_rfl))
  f267 := Tryz.func177.trans (congrArg some (by kernel_rfl))
  f314 := Tryz.func190.trans (congrArg some (by kernel_rfl))
  t3 := Tryz.underlying3
  a3 := Tryz.isAgg3
  z3 := Tryz.sizeOf3
  v3 := Tryz.zeroValue3
  t4 := Tryz.underlying4
  a4 := Tryz.isAgg4
  z4 := Tryz.sizeOf4
  v4 := Tryz.zeroValue4
  t5 := Tryz.underlying5
  a5 := Tryz.isAgg5
  z5 := Tryz.sizeOf5
  v5 := Tryz.zeroValue5
  t9 := Tryz.underlying9
  a9 := Tryz.isAgg9
  z9 := Tryz.sizeOf9
  v9 := Tryz.zeroValue9
  t46 := Tryz.underlying71
  a46 := Tryz.isAgg71
  z46 := Tryz.sizeOf71
  v46 := Tryz.zeroValue71
  t51 := Tryz.underlying99
  a51 := Tryz.isAgg99
  z51 := Tryz.sizeOf99
  v51 := Tryz.zeroValue99
  t59 := Tryz.underlying135
  a59 := Tryz.isAgg135
  z59 := Tryz.sizeOf135
  v59 := Tryz.zeroValue135
  t146 := Tryz.underlying187
  a146 := Tryz.isAgg187
  z146 := Tryz.sizeOf187
  v146 := Tryz.zeroValue187
  g1 := by kernel_rfl }
open Go.RowKit Go.Lib in
theorem Tryz.strings_Cut (s sep : ByteArray) (m : Int) (w : World) (hs : s.size < 4294967281) (hm : w.cell? ⟨2, 0, none⟩ = some (.int .i64 m)) :
    Calls Tryz.prog 112 #[.string s, .string sep] w fun e w' => e = .returned (.tuple #[.string ⟨(Lib.cut s.data.toList sep.data.toList).1.toArray⟩, .string ⟨(Lib.cut s.data.toList sep.data.toList).2.1.toArray⟩, .bool (Lib.cut s.data.toList sep.data.toList).2.2]) ∧ ∃ n, w' = w.drewN n := Any.strings_Cut Tryz.lays145 s sep m w hs hm
def Tryz.lays99_ren : Go.Shelf.Ren := ⟨fun | 99 => 52 | 206 => 75 | n => n, fun | 9 => 9 | 4 => 4 | 3 => 3 | n => n, fun | n => n⟩
theorem Tryz.lays99 : Go.Proofs.Lays.n99 Tryz.prog Tryz.lays99_ren := {
  mixed := by kernel_rfl
  f99 := Tryz.func52.trans (congrArg some (by kernel_rfl))
  f206 := Tryz.func75.trans (congrArg some (by kernel_rfl))
  t3 := Tryz.underlying3
  a3 := Tryz.isAgg3
  z3 := Tryz.sizeOf3
  v3 := Tryz.zeroValue3
  t4 := Tryz.underlying4
  a4 := Tryz.isAgg4
  z4 := Tryz.sizeOf4
  v4 := Tryz.zeroValue4
  t9 := Tryz.underlying9
  a9 := Tryz.isAgg9
  z9 := Tryz.sizeOf9
  v9 := Tryz.zeroValue9 }
open Go.RowKit Go.Lib in
theorem Tryz.strings_HasPrefix (s p : ByteArray) (w : World) :
    Calls Tryz.prog 52 #[.string s, .string p] w fun e w' => e = .returned (.bool (Lib.hasPrefix s.data.toList p.data.toList)) ∧ w' = w := Any.strings_HasPrefix Tryz.lays99 s p w
def Tryz.lays152_ren : Go.Shelf.Ren := ⟨fun | 152 => 71 | 137 => 105 | 119 => 67 | 224 => 106 | 225 => 107 | 217 => 133 | 266 => 152 | n => n, fun | 9 => 9 | 21 => 21 | 3 => 3 | 4 => 4 | 5 => 5 | 0 => 0 | 46 => 71 | n => n, fun | n => n⟩
theorem Tryz.lays152 : Go.Proofs.Lays.n152 Tryz.prog Tryz.lays152_ren := {
  mixed := by kernel_rfl
  f119 := Tryz.func67.trans (congrArg some (by kernel_rfl))
  f137 := Tryz.func105.trans (congrArg some (by kernel_rfl))
  f152 := Tryz.func71.trans (congrArg some (by kernel_rfl))
  f217 := Tryz.func133.trans (congrArg some (by kernel_rfl))
  f224 := Tryz.func106.trans (congrArg some (by kernel_rfl))
  f225 := Tryz.func107.trans (congrArg some (by kernel_rfl))
  f266 := Tryz.func152.trans (congrArg some (by kernel_rfl))
  t0 := Tryz.underlying0
  a0 := Tryz.isAgg0
  z0 := Tryz.sizeOf0
  v0 := Tryz.zeroValue0
  t3 := Tryz.underlying3
  a3 := Tryz.isAgg3
  z3 := Tryz.sizeOf3
  v3 := Tryz.zeroValue3
  t4 := Tryz.underlying4
  a4 := Tryz.isAgg4
  z4 := Tryz.sizeOf4
  v4 := Tryz.zeroValue4
  t5 := Tryz.underlying5
  a5 := Tryz.isAgg5
  z5 := Tryz.sizeOf5
  v5 := Tryz.zeroValue5
  t9 := Tryz.underlying9
  a9 := Tryz.isAgg9
  z9 := Tryz.sizeOf9
  v9 := Tryz.zeroValue9
  t21 := Tryz.underlying21
  a21 := Tryz.isAgg21
  z21 := Tryz.sizeOf21
  v21 := Tryz.zeroValue21
  t46 := Tryz.underlying71
  a46 := Tryz.isAgg71
  z46 := Tryz.sizeOf71
  v46 := Tryz.zeroValue71 }
open Go.RowKit Go.Lib in
theorem Tryz.strings_IndexRune_ascii (s : ByteArray) (r : Int) (w : World) (h0 : 0 ≤ r) (h1 : r < 128) :
    Calls Tryz.prog 71 #[.string s, .int .i32 r] w fun e w' => e = .returned (.int .i64 (Lib.indexByte s.data.toList r.toNat.toUInt8)) ∧ w' = w := Any.strings_IndexRune_ascii Tryz.lays152 s r w h0 h1
def Tryz.lays197_ren : Go.Shelf.Ren := ⟨fun | 197 => 29 | 260 => 50 | n => n, fun | 9 => 9 | 21 => 21 | 3 => 3 | 4 => 4 | 5 => 5 | 105 => 59 | 119 => 67 | 0 => 0 | 46 => 71 | 139 => 70 | 138 => 69 | n => n, fun | 3 => 0 | 4 => 1 | n => n⟩
theorem Tryz.lays197 : Go.Proofs.Lays.n197 Tryz.prog Tryz.lays197_ren := {
  mixed := by kernel_rfl
  f197 := Tryz.func29.trans (congrArg some (by kernel_rfl))
  f260 := Tryz.func50.trans (congrArg some (by kernel_rfl))
  t0 := Tryz.underlying0
  a0 := Tryz.isAgg0
  z0 := Tryz.sizeOf0
  v0 := Tryz.zeroValue0
  t3 := Tryz.underlying3
  a3 := Tryz.isAgg3
  z3 := Tryz.sizeOf3
  v3 := Tryz.zeroValue3
  t4 := Tryz.underlying4
  a4 := Tryz.isAgg4
  z4 := Tryz.sizeOf4
  v4 := Tryz.zeroValue4
  t5 := Tryz.underlying5
  a5 := Tryz.isAgg5
  z5 := Tryz.sizeOf5
  v5 := Tryz.zeroValue5
  t9 := Tryz.underlying9
  a9 := Tryz.isAgg9
  z9 := Tryz.sizeOf9
  v9 := Tryz.zeroValue9
  t21 := Tryz.underlying21
  a21 := Tryz.isAgg21
  z21 := Tryz.sizeOf21
  v21 := Tryz.zeroValue21
  t46 := Tryz.underlying71
  a46 := Tryz.isAgg71
  z46 := Tryz.sizeOf71
  v46 := Tryz.zeroValue71
  t105 := Tryz.underlying59
  a105 := Tryz.isAgg59
  z105 := Tryz.sizeOf59
  v105 := Tryz.zeroValue59
  t119 := Tryz.underlying67
  a119 := Tryz.isAgg67
  z119 := Tryz.sizeOf67
  t138 := Tryz.underlying69
  a138 := Tryz.isAgg69
  z138 := Tryz.sizeOf69
  v138 := Tryz.zeroValue69
  t139 := Tryz.underlying70
  a139 := Tryz.isAgg70
  z139 := Tryz.sizeOf70
  v139 := Tryz.zeroValue70
  g3 := by kernel_rfl
  g4 := by kernel_rfl }
open Go.RowKit Go.Lib in
theorem Tryz.utf8_DecodeRuneInString (s : ByteArray) (w : World) (hT : Lib.Utf8Tabs 0 1 w) :
    Calls Tryz.prog 29 #[.string s] w fun e w' => e = .returned (.tuple #[.int .i32 (Lib.decodeGo s).1, .int .i64 (Lib.decodeGo s).2]) ∧ Below w.heap.size w w' := Any.utf8_DecodeRuneInString Tryz.lays197 s w hT
end Go.Proofs
namespace Go.Proofs.YtclkfideaameoaaGreatDoor.G
open Go.RowKit
set_option maxRecDepth 100000
theorem RdA_is1_3 : Is1 Tryz.prog 3 := ⟨⟨_, Tryz.underlying3, rfl⟩, by kernel_rfl⟩
theorem RdA_is1_9 : Is1 Tryz.prog 9 := ⟨⟨_, Tryz.underlying9, rfl⟩, by kernel_rfl⟩
theorem RdA_fld_50_0 : FieldAt Tryz.prog 50 0 0 := ⟨_, _, Tryz.underlying50, rfl, rfl, by kernel_rfl⟩
theorem RdA_fld_50_1 : FieldAt Tryz.prog 50 1 1 := ⟨_, _, Tryz.underlying50, rfl, rfl, by kernel_rfl⟩
def flt : List PanicEntry := [{ v := .iface 47 (.agg #[]), recovered := false }]
theorem zka {P : Program} {w : World} {l : List (Nat × Value)} {dst : Option Tmp} {ty t : TypeId} {pos : String} {after : Array Edge} {guard : Option (Nat × Bool)} {x : Operand} {v : Value} (ht : P.concrete t = true) (hx : ev l x = some v) : Does P l ⟨dst, .makeInterface t x, ty, pos, after, guard⟩ w (.iface t v) w := fun ρ h => by
 simp [execOp, h x _ hx, run_makeInterface w t v ht]
theorem vp {w : World} : Calls Tryz.prog 23 #[bV true] w fun e w' => e = .returned (.tuple #[]) ∧ Below w.heap.size w w' := by
 have M : Mg w w ([]) := Mg.start w
 refine qw (l := [(0, bV true)]) Tryz.func23 rfl Tryz.ntmps23 rfl rfl ?_
 intro Q hret hnorm hP a A
 refine wsk fun K1 hK1 => wrl (sdm A λa A↦?_)
 refine sdo (v := bV false) A (zi rfl zr) λa A↦?_
 refine qa (hK1 _ _ (cf A ?_))
 refine wp_skip (hnorm _ _ (yr (v := .tuple #[]) A rfl .nil rfl ?_))
 exact ⟨rfl, M.bel⟩
theorem xr {w : World} : Calls Tryz.prog 23 #[bV false] w fun e w' => e = .panicked flt ∧ Below w.heap.size w w' := by
 have M : Mg w w ([]) := Mg.start w
 refine jr (l := [(0, bV false)]) Tryz.func23 rfl Tryz.ntmps23 rfl rfl ?_
 intro Q hret hnorm hP hX a A
 refine wsk fun K1 hK1 => wrl (sdm A λa A↦?_)
 refine sdo (v := bV true) A (zi rfl zr) λa A↦?_
 refine qa (hK1 _ _ (ct A ?_))
 refine wrl (sdo (v := .agg #[]) A (zb rfl (fun w => by kernel_rfl)) λa A↦?_)
 refine sdo (v := .iface 47 (.agg #[])) A (zka (by kernel_rfl) rfl) λa A↦?_
 refine zfh (v := .iface 47 (.agg #[])) A rfl (fun ρ h => by simp only [execOp, h (.tmp 5) _ rfl]; rfl) ?_
 exact hX _ _ _ _ _ A ⟨rfl, M.bel⟩
theorem xj {w0 w : World} {g p : Nat} {lg : Bool} {L : List UInt8} {T : List Ck} (hp : p ≤ L.length) (hM0 : Mg w0 w (.obj g (rC L p lg) :: T)) : Calls Tryz.prog 21 #[pA g 0] w fun e w' => e = .returned (.string (tx (L.drop p))) ∧ Mg w0 w' (.obj g (rC L p lg) :: T) := by
 have M : Mg w0 w (.obj g (rC L p lg) :: T) := hM0
 refine qw (l := [(0, pA g 0)]) Tryz.func21 rfl Tryz.ntmps21 rfl rfl ?_
 intro Q hret hnorm hP a A
 refine wsk fun K1 hK1 => wrl (sda A λa A↦?_)
 refine qa (hK1 _ _ (wsk fun K2 hK2 => zj (S := fun w1 => Mg w0 w1 (.obj g (rC L p lg) :: [])) (by kernel_rfl) ?_))
 replace M := M.drew
 refine amv A 0 rfl hP (M.sub (cc ns)) λa A↦?_
 refine atk A 1 rfl hP (M.sub (cc ns)) (λ_ M↦jb rfl) λa A↦?_
 refine atk (v := pA g 0) A 2 rfl hP (M.sub (cc ns)) (λ_ M↦qe RdA_fld_50_0 rfl rfl) λa A↦?_
 refine atk A 3 rfl hP (M.sub (cc ns)) (λ_ M↦zq M RdA_is1_9 rfl 0 rfl rfl) λa A↦?_
 refine amv A 4 rfl hP (M.sub (cc ns)) λa A↦?_
 refine atk A 5 rfl hP (M.sub (cc ns)) (λ_ M↦jb rfl) λa A↦?_
 refine atk (v := pA g 1) A 6 rfl hP (M.sub (cc ns)) (λ_ M↦qe RdA_fld_50_1 rfl rfl) λa A↦?_
 refine atk A 7 rfl hP (M.sub (cc ns)) (λ_ M↦zq M RdA_is1_3 rfl 0 rfl rfl) λa A↦?_
 refine atk (v := .string ((tx (L.drop p)))) A 8 rfl hP (M.sub (cc ns)) (λ_ M↦ja (s := L) (p := p) Tryz.underlying9 rfl rfl rfl (by omega)) λa A↦?_
 refine atk A 9 rfl hP (M.sub (cc ns)) (λ_ M↦qs rfl) λa A↦?_
 refine qr (by kernel_rfl) ?_
 refine hK2 _ _ (wr1 hret A ?_)
 exact ⟨rfl, M⟩
theorem RdB_is1_3 : Is1 Tryz.prog 3 := ⟨⟨_, Tryz.underlying3, rfl⟩, by kernel_rfl⟩
theorem RdB_fld_50_1 : FieldAt Tryz.prog 50 1 1 := ⟨_, _, Tryz.underlying50, rfl, rfl, by kernel_rfl⟩
def dcX (l : List UInt8) : Nat × Nat := Lib.decodeGo (tx l)
theorem qwi {l : List UInt8} (h : l ≠ []) : dcX l = Lib.decodeL l := by
 unfold dcX Lib.decodeGo
 rw [if_neg (by rw [xg]; exact fun k => h (List.length_eq_zero_iff.1 k))]
 rfl
theorem xx {l : List UInt8} (h : l ≠ []) : 1 ≤ (dcX l).2 ∧ (dcX l).2 ≤ l.length := by
 rw [qwi h]
 exact qge l h
theorem zkb (l : List UInt8) : (dcX l).2 ≤ l.length := by
 by_cases h : l = []
 ·
  subst h; exact Nat.le_refl _
 ·
  exact (xx h).2
theorem qmb {w : World} {s t : List UInt8} {b : Bool} (h : Lib.hasPrefix s t = b) : Calls Tryz.prog 52 #[.string (tx s), .string (tx t)] w fun e w' => e = .returned (bV b) ∧ Below w.heap.size w w' :=
 (Tryz.strings_HasPrefix (tx s) (tx t) w).mono fun e w' h1 => ⟨by rw [h1.1, xi, xi, h], by rw [h1.2]; exact Below.refl _ _⟩
def Tb (w : World) : Prop := Lib.Utf8Tabs (Tryz.lays197_ren.g 3) (Tryz.lays197_ren.g 4) w
theorem Tb.below {w w' : World} (h : Tb w) (hb : Below w.heap.size w w') : Tb w' := Utf8Tabs_below h hb
theorem qfb {w : World} {l : List UInt8} (hT : Tb w) : Calls Tryz.prog 29 #[.string (tx l)] w fun e w' => e = .returned (.tuple #[.int .i32 (((dcX l).1 : Nat) : Int), iV (((dcX l).2 : Nat) : Int)]) ∧ Below w.heap.size w w' := Tryz.utf8_DecodeRuneInString (tx l) w hT
theorem xy {w0 w : World} {g p : Nat} {lg : Bool} {L : List UInt8} {T : List Ck} {t : List UInt8} (hp : p ≤ L.length) (hl : L.length ≤ 1000000000) (hh : Lib.hasPrefix (L.drop p) t = true) (hM0 : Mg w0 w (.obj g (rC L p lg) :: T)) : Calls Tryz.prog 32 #[pA g 0, .string (tx t)] w fun e w' => e = .returned (bV true) ∧ Mg w0 w' (.obj g (rC L (p + t.length) lg) :: T) := by
 have htl := (List.isPrefixOf_iff_prefix.1 hh).length_le
 rw [List.length_drop] at htl
 have M : Mg w0 w (.obj g (rC L p lg) :: T) := hM0
 refine qw (l := [(0, pA g 0), (1, .string ((tx t)))]) Tryz.func32 rfl Tryz.ntmps32 rfl rfl ?_
 intro Q hret hnorm hP a A
 refine wsk fun K1 hK1 => wrl (sda A λa A↦?_)
 refine qa (hK1 _ _ (wsk fun K2 hK2 => wsk fun K3 hK3 => wrl (sdm A λa A↦?_)))
 refine sct A (ef rfl rfl) (xj (p := p) (L := L) (T := (T)) (by omega) M) ?_
 rintro _ w5 ⟨rfl, hM4⟩
 replace M : Mg w0 w5 (.obj g (rC L p lg) :: T) := hM4
 refine ⟨_, rfl, ?_⟩
 intro a A
 refine sdm A λa A↦?_
 refine gcl A M (ef rfl rfl) ((qmb hh)) fun w7 hb6 M a A => ?_
 refine sdo (v := bV false) A (zi rfl zr) λa A↦?_
 refine qa (hK3 _ _ (cf A ?_))
 refine wp_skip (hK2 _ _ (wsk fun K8 hK8 => wrl (sdm A λa A↦?_)))
 refine sdo A (jb rfl) λa A↦?_
 refine sdo (v := pA g 1) A (qe RdB_fld_50_1 rfl rfl) λa A↦?_
 refine sdo A (zq M RdB_is1_3 rfl 0 rfl rfl) λa A↦?_
 refine sdm A λa A↦?_
 refine sdo (v := iV (((t.length : Nat) : Int))) A (qy (s := t) Tryz.underlying9 rfl) λa A↦?_
 refine sdo (v := iV (((p + t.length : Nat) : Int))) A (qb rfl rfl (ar_add ((in_i64 (by omega) (by omega)).trans (by omega)))) λa A↦?_
 refine sdo A (jb rfl) λa A↦?_
 refine sdo (v := pA g 1) A (qe RdB_fld_50_1 rfl rfl) λa A↦?_
 refine zp (L' := (.obj g (rC L (p + t.length) lg) :: T)) A M rfl rfl (ze rfl rfl rfl (by kernel_rfl) M 0 rfl rfl rfl) 0 rfl rfl rfl ?_
 intro w9 M
 refine qa (hK8 _ _ (wsk fun K10 hK10 => wrl (sda A λa A↦?_)))
 refine qa (hK10 _ _ (wr1 hret A ?_))
 exact ⟨rfl, M⟩
theorem vf {w0 w : World} {g p : Nat} {lg : Bool} {L : List UInt8} {T : List Ck} {t : List UInt8} (hp : p ≤ L.length) (hl : L.length ≤ 1000000000) (hh : Lib.hasPrefix (L.drop p) t = false) (hM0 : Mg w0 w (.obj g (rC L p lg) :: T)) : Calls Tryz.prog 32 #[pA g 0, .string (tx t)] w fun e w' => e = .returned (bV false) ∧ Mg w0 w' (.obj g (rC L p lg) :: T) := by
 have M : Mg w0 w (.obj g (rC L p lg) :: T) := hM0
 refine qw (l := [(0, pA g 0), (1, .string ((tx t)))]) Tryz.func32 rfl Tryz.ntmps32 rfl rfl ?_
 intro Q hret hnorm hP a A
 refine wsk fun K1 hK1 => wrl (sda A λa A↦?_)
 refine qa (hK1 _ _ (wsk fun K2 hK2 => wsk fun K3 hK3 => wrl (sdm A λa A↦?_)))
 refine sct A (ef rfl rfl) (xj (p := p) (L := L) (T := (T)) (by omega) M) ?_
 rintro _ w5 ⟨rfl, hM4⟩
 replace M : Mg w0 w5 (.obj g (rC L p lg) :: T) := hM4
 refine ⟨_, rfl, ?_⟩
 intro a A
 refine sdm A λa A↦?_
 refine gcl A M (ef rfl rfl) ((qmb hh)) fun w7 hb6 M a A => ?_
 refine sdo (v := bV true) A (zi rfl zr) λa A↦?_
 refine qa (hK3 _ _ (ct A ?_))
 refine wsk fun K8 hK8 => wrl (sda A λa A↦?_)
 refine qa (hK8 _ _ (wr1 hret A ?_))
 exact ⟨rfl, M⟩
theorem qhe {w0 w : World} {g p : Nat} {lg : Bool} {L : List UInt8} {T : List Ck} (hT : Tb w0) (hp : p ≤ L.length) (hl : L.length ≤ 1000000000) (hne : L.drop p ≠ []) (hM0 : Mg w0 w (.obj g (rC L p lg) :: T)) : Calls Tryz.prog 53 #[pA g 0] w fun e w' => e = .returned (.int .i32 (((dcX (L.drop p)).1 : Nat) : Int)) ∧ Mg w0 w' (.obj g (rC L (p + (dcX (L.drop p)).2) lg) :: T) := by
 obtain ⟨hw1, hw2⟩ := xx hne
 rw [List.length_drop] at hw2
 have M : Mg w0 w (.obj g (rC L p lg) :: T) := hM0
 refine qw (l := [(0, pA g 0)]) Tryz.func53 rfl Tryz.ntmps53 rfl rfl ?_
 intro Q hret hnorm hP a A
 refine wsk fun K1 hK1 => wrl (sda A λa A↦?_)
 refine qa (hK1 _ _ (wsk fun K2 hK2 => wrl (sdm A λa A↦?_)))
 refine sct A (ef rfl rfl) (xj (p := p) (L := L) (T := (T)) (by omega) M) ?_
 rintro _ w4 ⟨rfl, hM3⟩
 replace M : Mg w0 w4 (.obj g (rC L p lg) :: T) := hM3
 refine ⟨_, rfl, ?_⟩
 intro a A
 refine gcl A M (ef rfl rfl) (qfb (l := L.drop p) (hT.below M.bel)) fun w6 hb5 M a A => ?_
 refine sdm A λa A↦?_
 iterate 2 refine sdo A (qi (vs := [.int .i32 ((((dcX (L.drop p)).1 : Nat) : Int)), iV ((((dcX (L.drop p)).2 : Nat) : Int))]) rfl rfl) λa A↦?_
 iterate 2 refine sda A λa A↦?_
 refine qa (hK2 _ _ (wsk fun K7 hK7 => wrl (sdm A λa A↦?_)))
 refine sdo (v := bV true) A (qb rfl rfl (fun w => (jc w).trans (by rw [show (decide (0 < (((dcX (L.drop p)).2 : Nat) : Int))) = true from (decide_eq_true (by omega))]))) λa A↦?_
 refine gcl A M (ef rfl rfl) (vp) fun w9 hb8 M a A => ?_
 refine qa (hK7 _ _ (wsk fun K10 hK10 => wrl (sdm A λa A↦?_)))
 refine sdo A (jb rfl) λa A↦?_
 refine sdo (v := pA g 1) A (qe RdB_fld_50_1 rfl rfl) λa A↦?_
 refine sdo A (zq M RdB_is1_3 rfl 0 rfl rfl) λa A↦?_
 refine sdm A λa A↦?_
 refine sdo (v := iV (((p + (dcX (L.drop p)).2 : Nat) : Int))) A (qb rfl rfl (ar_add ((in_i64 (by omega) (by omega)).trans (by omega)))) λa A↦?_
 refine sdo A (jb rfl) λa A↦?_
 refine sdo (v := pA g 1) A (qe RdB_fld_50_1 rfl rfl) λa A↦?_
 refine zp (L' := (.obj g (rC L (p + (dcX (L.drop p)).2) lg) :: T)) A M rfl rfl (ze rfl rfl rfl (by kernel_rfl) M 0 rfl rfl rfl) 0 rfl rfl rfl ?_
 intro w11 M
 refine qa (hK10 _ _ (wsk fun K12 hK12 => wrl (sdm A λa A↦?_)))
 refine sda A λa A↦?_
 refine qa (hK12 _ _ (wr1 hret A ?_))
 exact ⟨rfl, M⟩
theorem qih {w0 w : World} {g p : Nat} {lg : Bool} {L : List UInt8} {T : List Ck} (hT : Tb w0) (hp : p ≤ L.length) (hl : L.length ≤ 1000000000) (hne : L.drop p = []) (hM0 : Mg w0 w (.obj g (rC L p lg) :: T)) : Calls Tryz.prog 53 #[pA g 0] w fun e w' => e = .panicked flt ∧ Mg w0 w' (.obj g (rC L p lg) :: T) := by
 have hw1 : (dcX (L.drop p)).2 = 0 := by rw [hne]; rfl
 have M : Mg w0 w (.obj g (rC L p lg) :: T) := hM0
 refine jr (l := [(0, pA g 0)]) Tryz.func53 rfl Tryz.ntmps53 rfl rfl ?_
 intro Q hret hnorm hP hX a A
 refine wsk fun K1 hK1 => wrl (sda A λa A↦?_)
 refine qa (hK1 _ _ (wsk fun K2 hK2 => wrl (sdm A λa A↦?_)))
 refine sct A (ef rfl rfl) (xj (p := p) (L := L) (T := (T)) (by omega) M) ?_
 rintro _ w4 ⟨rfl, hM3⟩
 replace M : Mg w0 w4 (.obj g (rC L p lg) :: T) := hM3
 refine ⟨_, rfl, ?_⟩
 intro a A
 refine gcl A M (ef rfl rfl) (qfb (l := L.drop p) (hT.below M.bel)) fun w6 hb5 M a A => ?_
 refine sdm A λa A↦?_
 iterate 2 refine sdo A (qi (vs := [.int .i32 ((((dcX (L.drop p)).1 : Nat) : Int)), iV ((((dcX (L.drop p)).2 : Nat) : Int))]) rfl rfl) λa A↦?_
 iterate 2 refine sda A λa A↦?_
 refine qa (hK2 _ _ (wsk fun K7 hK7 => wrl (sdm A λa A↦?_)))
 refine sdo (v := bV false) A (qb rfl rfl (fun w => (jc w).trans (by rw [show (decide (0 < (((dcX (L.drop p)).2 : Nat) : Int))) = false from (decide_eq_false (by omega))]))) λa A↦?_
 refine qz A rfl rfl rfl (ef rfl rfl) (xr) ?_
 rintro _ w9 ⟨rfl, hp10⟩
 exact .inl ⟨_, rfl, hX _ _ _ _ _ A (⟨rfl, M.call hp10⟩)⟩
def yl (b : UInt8) : Bool := (decide (48 ≤ ((b.toNat : Nat) : Int)) && decide (((b.toNat : Nat) : Int) ≤ 57)) || ((decide (97 ≤ ((b.toNat : Nat) : Int)) && decide (((b.toNat : Nat) : Int) ≤ 102)) || (decide (65 ≤ ((b.toNat : Nat) : Int)) && decide (((b.toNat : Nat) : Int) ≤ 70)))
def hxN : List UInt8 → Nat
 | [] => 0
 | b :: t => if yl b = true then hxN t + 1 else 0
theorem zrg {l : List UInt8} {i : Nat} {b : UInt8} (h : l[i]? = some b) (hb : yl b = true) : hxN (l.drop i) = hxN (l.drop (i + 1)) + 1 := by
 obtain ⟨hl, e⟩ := List.getElem?_eq_some_iff.1 h
 rw [List.drop_eq_getElem_cons hl, e, hxN, if_pos hb]
theorem qaf {l : List UInt8} {i : Nat} {b : UInt8} (h : l[i]? = some b) (hb : yl b = false) : hxN (l.drop i) = 0 := by
 obtain ⟨hl, e⟩ := List.getElem?_eq_some_iff.1 h
 rw [List.drop_eq_getElem_cons hl, e, hxN, if_neg (by rw [hb]; decide)]
theorem qag {l : List UInt8} {i : Nat} (h : ¬ i < l.length) : hxN (l.drop i) = 0 := by
 rw [List.drop_eq_nil_of_le (by omega), hxN]
theorem zkc : ∀ l : List UInt8, hxN l ≤ l.length
 | [] => Nat.le_refl _
 | b :: t => by
  have := zkc t
  unfold hxN
  split <;> simp <;> omega
def yh (l : List UInt8) : Nat := (dcX l).2 + hxN (l.drop (dcX l).2) + (if (decide (0 < hxN (l.drop (dcX l).2)) && Lib.hasPrefix (l.drop ((dcX l).2 + hxN (l.drop (dcX l).2))) [59]) = true then 1 else 0)
theorem zkd (l : List UInt8) : yh l ≤ l.length := by
 have h1 := zkb l
 have h2 := zkc (l.drop (dcX l).2)
 rw [List.length_drop] at h2
 unfold yh
 split
 ·
  rename_i h
  rw [Bool.and_eq_true] at h
  have h3 : 1 ≤ (l.drop ((dcX l).2 + hxN (l.drop (dcX l).2))).length := (List.isPrefixOf_iff_prefix.1 h.2).length_le
  rw [List.length_drop] at h3
  omega
 ·
  omega
theorem zrh {w : World} {b : UInt8} : Calls Tryz.prog 116 #[.int .u8 ((b.toNat : Nat) : Int)] w fun e w' => e = .returned (bV (yl b)) ∧ Below w.heap.size w w' := by
 have M : Mg w w ([]) := Mg.start w
 refine qw (l := [(0, .int .u8 (((b.toNat : Nat) : Int)))]) Tryz.func116 rfl Tryz.ntmps116 rfl rfl ?_
 intro Q hret hnorm hP a A
 refine wsk fun K1 hK1 => wrl (sda A λa A↦?_)
 refine qa (hK1 _ _ (wsk fun K2 hK2 => wrl (sdm A λa A↦?_)))
 rcases tf (decide (48 ≤ ((b.toNat : Nat) : Int))) with hb3 | hb3
 ·
  have hb3' := of_decide_eq_true hb3
  refine sdc A jo hb3 λa A↦?_
  iterate 2 refine sdm A λa A↦?_
  rcases tf (decide (((b.toNat : Nat) : Int) ≤ 57)) with hb4 | hb4
  ·
   have hb4' := of_decide_eq_true hb4
   refine sdc A jl hb4 λa A↦?_
   refine sdk (v := bV true) A λa A↦?_
   refine sdm A λa A↦?_
   iterate 3 refine qf A rfl rfl rfl λa A↦?_
   iterate 2 refine vd A rfl rfl rfl λa A↦?_
   refine qf A rfl rfl rfl λa A↦?_
   refine sdk (v := bV true) A λa A↦?_
   refine sdm A λa A↦?_
   iterate 3 refine qf A rfl rfl rfl λa A↦?_
   iterate 2 refine vd A rfl rfl rfl λa A↦?_
   refine qf A rfl rfl rfl λa A↦?_
   refine sdk (v := bV true) A λa A↦?_
   refine sda A λa A↦?_
   refine qa (hK2 _ _ (wr1 hret A ?_))
   exact ⟨by unfold yl; rw [hb3, hb4]; rfl, M.bel⟩
  ·
   have hb4' := of_decide_eq_false hb4
   refine sdc A jl hb4 λa A↦?_
   refine sdk (v := bV false) A λa A↦?_
   iterate 2 refine sdm A λa A↦?_
   rcases tf (decide (97 ≤ ((b.toNat : Nat) : Int))) with hb5 | hb5
   ·
    have hb5' := of_decide_eq_true hb5
    refine sdc A jo hb5 λa A↦?_
    iterate 2 refine sdm A λa A↦?_
    rcases tf (decide (((b.toNat : Nat) : Int) ≤ 102)) with hb6 | hb6
    ·
     have hb6' := of_decide_eq_true hb6
     refine sdc A jl hb6 λa A↦?_
     iterate 2 refine sdk (v := bV true) A λa A↦?_
     refine sdm A λa A↦?_
     iterate 3 refine qf A rfl rfl rfl λa A↦?_
     iterate 2 refine vd A rfl rfl rfl λa A↦?_
     refine qf A rfl rfl rfl λa A↦?_
     refine sdk (v := bV true) A λa A↦?_
     refine sda A λa A↦?_
     refine qa (hK2 _ _ (wr1 hret A ?_))
     exact ⟨by unfold yl; rw [hb3, hb4, hb5, hb6]; rfl, M.bel⟩
    ·
     have hb6' := of_decide_eq_false hb6
     refine sdc A jl hb6 λa A↦?_
     iterate 2 refine sdk (v := bV false) A λa A↦?_
     iterate 2 refine sdm A λa A↦?_
     rcases tf (decide (65 ≤ ((b.toNat : Nat) : Int))) with hb7 | hb7
     ·
      have hb7' := of_decide_eq_true hb7
      refine sdc A jo hb7 λa A↦?_
      iterate 2 refine sdm A λa A↦?_
      rcases tf (decide (((b.toNat : Nat) : Int) ≤ 70)) with hb8 | hb8
      ·
       have hb8' := of_decide_eq_true hb8
       refine sdc A jl hb8 λa A↦?_
       iterate 2 refine sdk (v := bV true) A λa A↦?_
       refine sda A λa A↦?_
       refine qa (hK2 _ _ (wr1 hret A ?_))
       exact ⟨by unfold yl; rw [hb3, hb4, hb5, hb6, hb7, hb8]; rfl, M.bel⟩
      ·
       have hb8' := of_decide_eq_false hb8
       refine sdc A jl hb8 λa A↦?_
       iterate 2 refine sdk (v := bV false) A λa A↦?_
       refine sda A λa A↦?_
       refine qa (hK2 _ _ (wr1 hret A ?_))
       exact ⟨by unfold yl; rw [hb3, hb4, hb5, hb6, hb7, hb8]; rfl, M.bel⟩
     ·
      have hb7' := of_decide_eq_false hb7
      refine sdc A jo hb7 λa A↦?_
      refine sdm A λa A↦?_
      iterate 2 refine qf A rfl rfl rfl λa A↦?_
      iterate 2 refine sdk (v := bV false) A λa A↦?_
      refine sda A λa A↦?_
      refine qa (hK2 _ _ (wr1 hret A ?_))
      exact ⟨by unfold yl; rw [hb3, hb4, hb5, hb6, hb7]; rfl, M.bel⟩
   ·
    have hb5' := of_decide_eq_false hb5
    refine sdc A jo hb5 λa A↦?_
    refine sdm A λa A↦?_
    iterate 2 refine qf A rfl rfl rfl λa A↦?_
    iterate 2 refine sdk (v := bV false) A λa A↦?_
    iterate 2 refine sdm A λa A↦?_
    rcases tf (decide (65 ≤ ((b.toNat : Nat) : Int))) with hb9 | hb9
    ·
     have hb9' := of_decide_eq_true hb9
     refine sdc A jo hb9 λa A↦?_
     iterate 2 refine sdm A λa A↦?_
     rcases tf (decide (((b.toNat : Nat) : Int) ≤ 70)) with hb10 | hb10
     ·
      have hb10' := of_decide_eq_true hb10
      refine sdc A jl hb10 λa A↦?_
      iterate 2 refine sdk (v := bV true) A λa A↦?_
      refine sda A λa A↦?_
      refine qa (hK2 _ _ (wr1 hret A ?_))
      exact ⟨by unfold yl; rw [hb3, hb4, hb5, hb9, hb10]; rfl, M.bel⟩
     ·
      have hb10' := of_decide_eq_false hb10
      refine sdc A jl hb10 λa A↦?_
      iterate 2 refine sdk (v := bV false) A λa A↦?_
      refine sda A λa A↦?_
      refine qa (hK2 _ _ (wr1 hret A ?_))
      exact ⟨by unfold yl; rw [hb3, hb4, hb5, hb9, hb10]; rfl, M.bel⟩
    ·
     have hb9' := of_decide_eq_false hb9
     refine sdc A jo hb9 λa A↦?_
     refine sdm A λa A↦?_
     iterate 2 refine qf A rfl rfl rfl λa A↦?_
     iterate 2 refine sdk (v := bV false) A λa A↦?_
     refine sda A λa A↦?_
     refine qa (hK2 _ _ (wr1 hret A ?_))
     exact ⟨by unfold yl; rw [hb3, hb4, hb5, hb9]; rfl, M.bel⟩
 ·
  have hb3' := of_decide_eq_false hb3
  refine sdc A jo hb3 λa A↦?_
  refine sdm A λa A↦?_
  iterate 2 refine qf A rfl rfl rfl λa A↦?_
  refine sdk (v := bV false) A λa A↦?_
  iterate 2 refine sdm A λa A↦?_
  rcases tf (decide (97 ≤ ((b.toNat : Nat) : Int))) with hb11 | hb11
  ·
   have hb11' := of_decide_eq_true hb11
   refine sdc A jo hb11 λa A↦?_
   iterate 2 refine sdm A λa A↦?_
   rcases tf (decide (((b.toNat : Nat) : Int) ≤ 102)) with hb12 | hb12
   ·
    have hb12' := of_decide_eq_true hb12
    refine sdc A jl hb12 λa A↦?_
    iterate 2 refine sdk (v := bV true) A λa A↦?_
    refine sdm A λa A↦?_
    iterate 3 refine qf A rfl rfl rfl λa A↦?_
    iterate 2 refine vd A rfl rfl rfl λa A↦?_
    refine qf A rfl rfl rfl λa A↦?_
    refine sdk (v := bV true) A λa A↦?_
    refine sda A λa A↦?_
    refine qa (hK2 _ _ (wr1 hret A ?_))
    exact ⟨by unfold yl; rw [hb3, hb11, hb12]; rfl, M.bel⟩
   ·
    have hb12' := of_decide_eq_false hb12
    refine sdc A jl hb12 λa A↦?_
    iterate 2 refine sdk (v := bV false) A λa A↦?_
    iterate 2 refine sdm A λa A↦?_
    rcases tf (decide (65 ≤ ((b.toNat : Nat) : Int))) with hb13 | hb13
    ·
     have hb13' := of_decide_eq_true hb13
     refine sdc A jo hb13 λa A↦?_
     iterate 2 refine sdm A λa A↦?_
     rcases tf (decide (((b.toNat : Nat) : Int) ≤ 70)) with hb14 | hb14
     ·
      have hb14' := of_decide_eq_true hb14
      refine sdc A jl hb14 λa A↦?_
      iterate 2 refine sdk (v := bV true) A λa A↦?_
      refine sda A λa A↦?_
      refine qa (hK2 _ _ (wr1 hret A ?_))
      exact ⟨by unfold yl; rw [hb3, hb11, hb12, hb13, hb14]; rfl, M.bel⟩
     ·
      have hb14' := of_decide_eq_false hb14
      refine sdc A jl hb14 λa A↦?_
      iterate 2 refine sdk (v := bV false) A λa A↦?_
      refine sda A λa A↦?_
      refine qa (hK2 _ _ (wr1 hret A ?_))
      exact ⟨by unfold yl; rw [hb3, hb11, hb12, hb13, hb14]; rfl, M.bel⟩
    ·
     have hb13' := of_decide_eq_false hb13
     refine sdc A jo hb13 λa A↦?_
     refine sdm A λa A↦?_
     iterate 2 refine qf A rfl rfl rfl λa A↦?_
     iterate 2 refine sdk (v := bV false) A λa A↦?_
     refine sda A λa A↦?_
     refine qa (hK2 _ _ (wr1 hret A ?_))
     exact ⟨by unfold yl; rw [hb3, hb11, hb12, hb13]; rfl, M.bel⟩
  ·
   have hb11' := of_decide_eq_false hb11
   refine sdc A jo hb11 λa A↦?_
   refine sdm A λa A↦?_
   iterate 2 refine qf A rfl rfl rfl λa A↦?_
   iterate 2 refine sdk (v := bV false) A λa A↦?_
   iterate 2 refine sdm A λa A↦?_
   rcases tf (decide (65 ≤ ((b.toNat : Nat) : Int))) with hb15 | hb15
   ·
    have hb15' := of_decide_eq_true hb15
    refine sdc A jo hb15 λa A↦?_
    iterate 2 refine sdm A λa A↦?_
    rcases tf (decide (((b.toNat : Nat) : Int) ≤ 70)) with hb16 | hb16
    ·
     have hb16' := of_decide_eq_true hb16
     refine sdc A jl hb16 λa A↦?_
     iterate 2 refine sdk (v := bV true) A λa A↦?_
     refine sda A λa A↦?_
     refine qa (hK2 _ _ (wr1 hret A ?_))
     exact ⟨by unfold yl; rw [hb3, hb11, hb15, hb16]; rfl, M.bel⟩
    ·
     have hb16' := of_decide_eq_false hb16
     refine sdc A jl hb16 λa A↦?_
     iterate 2 refine sdk (v := bV false) A λa A↦?_
     refine sda A λa A↦?_
     refine qa (hK2 _ _ (wr1 hret A ?_))
     exact ⟨by unfold yl; rw [hb3, hb11, hb15, hb16]; rfl, M.bel⟩
   ·
    have hb15' := of_decide_eq_false hb15
    refine sdc A jo hb15 λa A↦?_
    refine sdm A λa A↦?_
    iterate 2 refine qf A rfl rfl rfl λa A↦?_
    iterate 2 refine sdk (v := bV false) A λa A↦?_
    refine sda A λa A↦?_
    refine qa (hK2 _ _ (wr1 hret A ?_))
    exact ⟨by unfold yl; rw [hb3, hb11, hb15]; rfl, M.bel⟩
theorem zke {w : World} {b : UInt8} {c : Bool} (h : yl b = c) : Calls Tryz.prog 116 #[.int .u8 ((b.toNat : Nat) : Int)] w fun e w' => e = .returned (bV c) ∧ Below w.heap.size w w' := h ▸ zrh
theorem zkf {w : World} {l : List UInt8} (hT : Tb w) (hl : l.length ≤ 1000000000) : Calls Tryz.prog 86 #[.string (tx l)] w fun e w' => e = .returned (iV ((yh l : Nat) : Int)) ∧ Below w.heap.size w w' := by
 have M : Mg w w ([]) := Mg.start w
 refine qw (l := [(0, .string ((tx l)))]) Tryz.func86 rfl Tryz.ntmps86 rfl rfl ?_
 intro Q hret hnorm hP a A
 refine wsk fun K1 hK1 => wrl (sda A λa A↦?_)
 refine qa (hK1 _ _ (wsk fun K2 hK2 => wrl (sdm A λa A↦?_)))
 refine sct A (ef rfl rfl) (qfb (l := l) (hT.below M.bel)) ?_
 rintro _ w4 ⟨rfl, hb3⟩
 obtain ⟨q, hq⟩ : ∃ q, (dcX l).2 = q := ⟨_, rfl⟩
 have hql := zkb l
 rw [hq] at hql ⊢
 replace M := M.call hb3
 refine ⟨_, rfl, ?_⟩
 intro a A
 refine sdm A λa A↦?_
 iterate 2 refine sdo A (qi (vs := [.int .i32 ((((dcX l).1 : Nat) : Int)), iV (((q : Nat) : Int))]) rfl rfl) λa A↦?_
 iterate 2 refine sda A λa A↦?_
 refine qa (hK2 _ _ (wsk fun K5 hK5 => wrl (sda A λa A↦?_)))
 refine qa (hK5 _ _ (wsk fun K6 hK6 => wp_block (jj (fun m_ a w1 => ∃ (j : Nat), m_ = 1 + (l.length - (q + j)) ∧ (q + j ≤ l.length ∧ hxN (l.drop q) = j + hxN (l.drop (q + j))) ∧ Sl a 41 [(0, .string ((tx l))), (2, iV 0), (3, .int .i32 ((((dcX l).1 : Nat) : Int))), (4, iV (((q : Nat) : Int))), (5, iV (((j : Nat) : Int))), (6, .tuple #[.int .i32 ((((dcX l).1 : Nat) : Int)), iV (((q : Nat) : Int))]), (7, .string ((tx l))), (8, .tuple #[.int .i32 ((((dcX l).1 : Nat) : Int)), iV (((q : Nat) : Int))]), (9, .int .i32 ((((dcX l).1 : Nat) : Int))), (10, iV (((q : Nat) : Int)))] ∧ Mg w w1 ([])) _ ⟨0, rfl, ⟨by omega, by rw [Nat.zero_add, Nat.add_zero]⟩, A.keep _ (by repeat' constructor), M⟩ ?_)))
 clear M A
 rintro m_ a w7 ⟨j, rfl, hinv9, A, M⟩ K8 hK8
 obtain ⟨hj0, hj⟩ := hinv9
 refine wsk fun K10 hK10 => wsk fun K11 hK11 => wrl ?_
 iterate 2 refine sdm A λa A↦?_
 refine sdo (v := iV (((q + j : Nat) : Int))) A (qb rfl rfl (ar_add ((in_i64 (by omega) (by omega)).trans (by omega)))) λa A↦?_
 refine sdm A λa A↦?_
 refine sdo (v := iV (((l.length : Nat) : Int))) A (qy (s := l) Tryz.underlying9 rfl) λa A↦?_
 rcases tf (decide (((q + j : Nat) : Int) < ((l.length : Nat) : Int))) with hb12 | hb12
 ·
  have hb12' := of_decide_eq_true hb12
  refine sdc A jk hb12 λa A↦?_
  iterate 4 refine sdm A λa A↦?_
  refine sdo (v := iV (((q + j : Nat) : Int))) A (qb rfl rfl (ar_add ((in_i64 (by omega) (by omega)).trans (by omega)))) λa A↦?_
  obtain ⟨b13, hb14⟩ : ∃ b, l[q + j]? = some b := ⟨_, List.getElem?_eq_getElem (show q + j < l.length by omega)⟩
  refine sdo (v := .int .u8 (((b13.toNat : Nat) : Int))) A (qx (s := l) (i := q + j) Tryz.underlying9 rfl rfl rfl hb14) λa A↦?_
  rcases tf (yl b13) with hb15 | hb15
  ·
   refine gcl A M (ef rfl rfl) ((zke hb15)) fun w17 hb16 M a A => ?_
   refine sdk (v := bV true) A λa A↦?_
   refine qa (hK11 _ _ (ct A ?_))
   refine wp_skip (hK10 _ _ (wp_block (wrl (sdm A λa A↦?_))))
   refine sdo (v := iV (((j + 1 : Nat) : Int))) A (qb rfl rfl (ar_add ((in_i64 (by omega) (by omega)).trans (by omega)))) λa A↦?_
   refine sda A λa A↦?_
   refine qa ?_
   refine hK8 _ _ _ (by omega) ⟨j + 1, rfl, ⟨by omega, by rw [hj, zrg hb14 hb15, Nat.add_assoc]; omega⟩, A.keep _ (by repeat' constructor), M⟩
  ·
   refine gcl A M (ef rfl rfl) ((zke hb15)) fun w19 hb18 M a A => ?_
   refine sdk (v := bV false) A λa A↦?_
   refine qa (hK11 _ _ (cf A ?_))
   refine wp_exit (hK6 _ _ (wsk fun K20 hK20 => wrl ?_))
   iterate 2 refine sdm A λa A↦?_
   refine sdo (v := iV (((q + j : Nat) : Int))) A (qb rfl rfl (ar_add ((in_i64 (by omega) (by omega)).trans (by omega)))) λa A↦?_
   refine sda A λa A↦?_
   refine qa (hK20 _ _ (wsk fun K21 hK21 => wsk fun K22 hK22 => wrl (sdm A λa A↦?_)))
   rcases tf (decide (0 < ((j : Nat) : Int))) with hb23 | hb23
   ·
    have hb23' := of_decide_eq_true hb23
    refine sdc A jc hb23 λa A↦?_
    iterate 3 refine sdm A λa A↦?_
    refine sdo (v := .string ((tx (l.drop (q + j))))) A (ja (s := l) (p := q + j) Tryz.underlying9 rfl rfl rfl (by omega)) λa A↦?_
    rcases tf (Lib.hasPrefix (l.drop (q + j)) [59]) with hb24 | hb24
    ·
     refine gcl A M (ef rfl rfl) ((qmb hb24)) fun w26 hb25 M a A => ?_
     refine sdk (v := bV true) A λa A↦?_
     refine qa (hK22 _ _ (ct A ?_))
     refine wrl (sdm A λa A↦?_)
     refine sdo (v := iV (((q + j + 1 : Nat) : Int))) A (qb rfl rfl (ar_add ((in_i64 (by omega) (by omega)).trans (by omega)))) λa A↦?_
     refine sda A λa A↦?_
     refine qa (hK21 _ _ (wsk fun K27 hK27 => wrl (sdm A λa A↦?_)))
     refine sda A λa A↦?_
     refine qa (hK27 _ _ (wr1 hret A ?_))
     have hz : hxN (l.drop (q + j)) = 0 := by first | exact qaf (by assumption) (by assumption) | exact qag (by omega)
     have hjj : hxN (l.drop q) = j := by omega
     exact ⟨by unfold yh; rw [hq, hjj, hb24, if_pos (by rw [decide_eq_true (by omega)]; rfl)], M.bel⟩
    ·
     refine gcl A M (ef rfl rfl) ((qmb hb24)) fun w29 hb28 M a A => ?_
     refine sdk (v := bV false) A λa A↦?_
     refine qa (hK22 _ _ (cf A ?_))
     refine wp_skip (hK21 _ _ (wsk fun K30 hK30 => wrl (sdm A λa A↦?_)))
     refine sda A λa A↦?_
     refine qa (hK30 _ _ (wr1 hret A ?_))
     have hz : hxN (l.drop (q + j)) = 0 := by first | exact qaf (by assumption) (by assumption) | exact qag (by omega)
     have hjj : hxN (l.drop q) = j := by omega
     exact ⟨by unfold yh; rw [hq, hjj, hb24, if_neg (by rw [Bool.and_false]; decide)]; rfl, M.bel⟩
   ·
    have hb23' := of_decide_eq_false hb23
    refine sdc A jc hb23 λa A↦?_
    refine sdm A λa A↦?_
    iterate 4 refine qf A rfl rfl rfl λa A↦?_
    refine sdk (v := bV false) A λa A↦?_
    refine qa (hK22 _ _ (cf A ?_))
    refine wp_skip (hK21 _ _ (wsk fun K31 hK31 => wrl (sdm A λa A↦?_)))
    refine sda A λa A↦?_
    refine qa (hK31 _ _ (wr1 hret A ?_))
    have hz : hxN (l.drop (q + j)) = 0 := by first | exact qaf (by assumption) (by assumption) | exact qag (by omega)
    have hjj : hxN (l.drop q) = j := by omega
    exact ⟨by unfold yh; rw [hq, hjj, if_neg (by rw [decide_eq_false (by omega), Bool.false_and]; decide)]; rfl, M.bel⟩
 ·
  have hb12' := of_decide_eq_false hb12
  refine sdc A jk hb12 λa A↦?_
  refine sdm A λa A↦?_
  iterate 6 refine qf A rfl rfl rfl λa A↦?_
  refine sdk (v := bV false) A λa A↦?_
  refine qa (hK11 _ _ (cf A ?_))
  refine wp_exit (hK6 _ _ (wsk fun K32 hK32 => wrl ?_))
  iterate 2 refine sdm A λa A↦?_
  refine sdo (v := iV (((q + j : Nat) : Int))) A (qb rfl rfl (ar_add ((in_i64 (by omega) (by omega)).trans (by omega)))) λa A↦?_
  refine sda A λa A↦?_
  refine qa (hK32 _ _ (wsk fun K33 hK33 => wsk fun K34 hK34 => wrl (sdm A λa A↦?_)))
  rcases tf (decide (0 < ((j : Nat) : Int))) with hb35 | hb35
  ·
   have hb35' := of_decide_eq_true hb35
   refine sdc A jc hb35 λa A↦?_
   iterate 3 refine sdm A λa A↦?_
   refine sdo (v := .string ((tx (l.drop (q + j))))) A (ja (s := l) (p := q + j) Tryz.underlying9 rfl rfl rfl (by omega)) λa A↦?_
   rcases tf (Lib.hasPrefix (l.drop (q + j)) [59]) with hb36 | hb36
   ·
    refine gcl A M (ef rfl rfl) ((qmb hb36)) fun w38 hb37 M a A => ?_
    refine sdk (v := bV true) A λa A↦?_
    refine qa (hK34 _ _ (ct A ?_))
    refine wrl (sdm A λa A↦?_)
    refine sdo (v := iV (((q + j + 1 : Nat) : Int))) A (qb rfl rfl (ar_add ((in_i64 (by omega) (by omega)).trans (by omega)))) λa A↦?_
    refine sda A λa A↦?_
    refine qa (hK33 _ _ (wsk fun K39 hK39 => wrl (sdm A λa A↦?_)))
    refine sda A λa A↦?_
    refine qa (hK39 _ _ (wr1 hret A ?_))
    have hz : hxN (l.drop (q + j)) = 0 := by first | exact qaf (by assumption) (by assumption) | exact qag (by omega)
    have hjj : hxN (l.drop q) = j := by omega
    exact ⟨by unfold yh; rw [hq, hjj, hb36, if_pos (by rw [decide_eq_true (by omega)]; rfl)], M.bel⟩
   ·
    refine gcl A M (ef rfl rfl) ((qmb hb36)) fun w41 hb40 M a A => ?_
    refine sdk (v := bV false) A λa A↦?_
    refine qa (hK34 _ _ (cf A ?_))
    refine wp_skip (hK33 _ _ (wsk fun K42 hK42 => wrl (sdm A λa A↦?_)))
    refine sda A λa A↦?_
    refine qa (hK42 _ _ (wr1 hret A ?_))
    have hz : hxN (l.drop (q + j)) = 0 := by first | exact qaf (by assumption) (by assumption) | exact qag (by omega)
    have hjj : hxN (l.drop q) = j := by omega
    exact ⟨by unfold yh; rw [hq, hjj, hb36, if_neg (by rw [Bool.and_false]; decide)]; rfl, M.bel⟩
  ·
   have hb35' := of_decide_eq_false hb35
   refine sdc A jc hb35 λa A↦?_
   refine sdm A λa A↦?_
   iterate 4 refine qf A rfl rfl rfl λa A↦?_
   refine sdk (v := bV false) A λa A↦?_
   refine qa (hK34 _ _ (cf A ?_))
   refine wp_skip (hK33 _ _ (wsk fun K43 hK43 => wrl (sdm A λa A↦?_)))
   refine sda A λa A↦?_
   refine qa (hK43 _ _ (wr1 hret A ?_))
   have hz : hxN (l.drop (q + j)) = 0 := by first | exact qaf (by assumption) (by assumption) | exact qag (by omega)
   have hjj : hxN (l.drop q) = j := by omega
   exact ⟨by unfold yh; rw [hq, hjj, if_neg (by rw [decide_eq_false (by omega), Bool.false_and]; decide)]; rfl, M.bel⟩
end Go.Proofs.YtclkfideaameoaaGreatDoor.G
namespace Go.Proofs.YtclkfideaameoaaGreatDoor.C
open Go.RowKit

def qgf (r : Int) : Bool := decide ((r ≠ 304 ∧ r ≠ 305 ∧ 256 ≤ r ∧ r ≤ 311) ∨ (330 ≤ r ∧ r ≤ 375))
def qqj (r : Int) : Bool := decide ((313 ≤ r ∧ r ≤ 328) ∨ (377 ≤ r ∧ r ≤ 382))
def qle (r : Int) : Int :=
  if 97 ≤ r ∧ r ≤ 122 then 32
  else if 224 ≤ r ∧ r ≤ 254 ∧ r ≠ 247 then 32
  else if qgf r = true ∧ r % 2 = 1 then 1
  else if qqj r = true ∧ r % 2 = 0 then 1
  else if 945 ≤ r ∧ r ≤ 969 ∧ r ≠ 962 then 32
  else if 1072 ≤ r ∧ r ≤ 1103 then 32
  else if 1104 ≤ r ∧ r ≤ 1119 then 80
  else 0

def qwj (r : Int) : Int :=
  if qle (wrap32 (r + 1)) = 1 then 1 else if qle (wrap32 (r + 32)) = 32 then 32 else if qle (wrap32 (r + 80)) = 80 then 80 else 0
def qxa (r : Int) : Bool := decide (r = 170 ∨ r = 181 ∨ r = 186 ∨ r = 223 ∨ r = 255 ∨ r = 304 ∨ r = 305 ∨ r = 312 ∨ r = 329 ∨ r = 376 ∨ r = 383 ∨ r = 962)
def qne (r : Int) : Bool := decide (qle r ≠ 0 ∨ qwj r ≠ 0) || qxa r
def blankB (r : Int) : Bool := decide (r = 9 ∨ r = 10 ∨ r = 11 ∨ r = 12 ∨ r = 13 ∨ r = 32 ∨ r = 133 ∨ r = 160 ∨ r = 8232 ∨ r = 8233)

theorem qah (r : Int) : (qgf r = true) = ((r ≠ 304 ∧ r ≠ 305 ∧ 256 ≤ r ∧ r ≤ 311) ∨ (330 ≤ r ∧ r ≤ 375)) := by simp [qgf]
theorem qnf (r : Int) : (qgf r = false) = ¬ ((r ≠ 304 ∧ r ≠ 305 ∧ 256 ≤ r ∧ r ≤ 311) ∨ (330 ≤ r ∧ r ≤ 375)) := by rw [← qah]; simp
theorem qfc (r : Int) : (qqj r = true) = ((313 ≤ r ∧ r ≤ 328) ∨ (377 ≤ r ∧ r ≤ 382)) := by simp [qqj]
theorem qxb (r : Int) : (qqj r = false) = ¬ ((313 ≤ r ∧ r ≤ 328) ∨ (377 ≤ r ∧ r ≤ 382)) := by rw [← qfc]; simp

theorem qxc (r : Int) :
    (qle r = 32 ∧ ((97 ≤ r ∧ r ≤ 122) ∨ (224 ≤ r ∧ r ≤ 254 ∧ r ≠ 247) ∨ (945 ≤ r ∧ r ≤ 969 ∧ r ≠ 962) ∨ (1072 ≤ r ∧ r ≤ 1103)))
    ∨ (qle r = 1 ∧ ((((r ≠ 304 ∧ r ≠ 305 ∧ 256 ≤ r ∧ r ≤ 311) ∨ (330 ≤ r ∧ r ≤ 375)) ∧ r % 2 = 1) ∨ (((313 ≤ r ∧ r ≤ 328) ∨ (377 ≤ r ∧ r ≤ 382)) ∧ r % 2 = 0)))
    ∨ (qle r = 80 ∧ 1104 ≤ r ∧ r ≤ 1119)
    ∨ (qle r = 0 ∧ ¬ (97 ≤ r ∧ r ≤ 122) ∧ ¬ (224 ≤ r ∧ r ≤ 254 ∧ r ≠ 247) ∧ ¬ (945 ≤ r ∧ r ≤ 969 ∧ r ≠ 962) ∧ ¬ (1072 ≤ r ∧ r ≤ 1119)
        ∧ ¬ (((r ≠ 304 ∧ r ≠ 305 ∧ 256 ≤ r ∧ r ≤ 311) ∨ (330 ≤ r ∧ r ≤ 375)) ∧ r % 2 = 1) ∧ ¬ (((313 ≤ r ∧ r ≤ 328) ∨ (377 ≤ r ∧ r ≤ 382)) ∧ r % 2 = 0)) := by
  unfold qle
  simp only [qah, qfc]
  split
  · omega
  · split
    · omega
    · split
      · omega
      · split
        · omega
        · split
          · omega
          · split
            · omega
            · split <;> omega
theorem qhf {k : IntKind} {a b : Int} (h : a = b) : Ending.returned (.int k a) = .returned (.int k b) := by rw [h]
theorem kk {a b : Bool} (h : a = b) : Ending.returned (.bool a) = .returned (.bool b) := by rw [h]
theorem qii (r : Int) (w : World) :
    Calls Tryz.prog 169 #[.int .i32 r] w fun e w' => e = .returned (.bool (qgf r)) ∧ w' = w := by
  go_enter Tryz.func169, Tryz.ntmps169
  go_wp2
  all_goals go_ret
  all_goals refine ⟨kk ?_, rfl⟩
  all_goals (unfold qgf; rw [Bool.eq_iff_iff]; simp at *; omega)
theorem qng (r : Int) (w : World) :
    Calls Tryz.prog 170 #[.int .i32 r] w fun e w' => e = .returned (.bool (qqj r)) ∧ w' = w := by
  go_enter Tryz.func170, Tryz.ntmps170
  go_wp2
  all_goals go_ret
  all_goals refine ⟨kk ?_, rfl⟩
  all_goals (unfold qqj; rw [Bool.eq_iff_iff]; simp at *; try omega)
theorem zfi (r : Int) (w : World) :
    Calls Tryz.prog 146 #[.int .i32 r] w fun e w' => e = .returned (.bool (qxa r)) ∧ w' = w := by
  go_enter Tryz.func146, Tryz.ntmps146
  go_wp2
  all_goals go_ret
  all_goals refine ⟨kk ?_, rfl⟩
  all_goals (unfold qxa; rw [Bool.eq_iff_iff]; simp at *; try omega)
theorem blank_any (r : Int) (w : World) :
    Calls Tryz.prog 30 #[.int .i32 r] w fun e w' => e = .returned (.bool (blankB r)) ∧ w' = w := by
  go_enter Tryz.func30, Tryz.ntmps30
  go_wp2
  all_goals go_ret
  all_goals refine ⟨kk ?_, rfl⟩
  all_goals (unfold blankB; rw [Bool.eq_iff_iff]; simp at *; try omega)
theorem zch (r : Int) (w : World) :
    Calls Tryz.prog 144 #[.int .i32 r] w fun e w' => e = .returned (.int .i32 (qle r)) ∧ w' = w := by
  have HC : Hid _ := qxc r
  have h0 : qgf r = true → 0 ≤ r := by rw [qah]; omega
  have h1 : qqj r = true → 0 ≤ r := by rw [qfc]; omega
  by_cases he : qgf r = true
  · have hr := h0 he
    clear h0 h1
    go_enter Tryz.func144, Tryz.ntmps144
    go_wp2_with (first | (go_at_call 169; refine (qii _ _).mono ?_; rintro e w' ⟨rfl, rfl⟩) | (go_at_call 170; refine (qng _ _).mono ?_; rintro e w' ⟨rfl, rfl⟩))
    all_goals go_ret
    all_goals refine ⟨qhf ?_, rfl⟩
    all_goals (have hc := HC.out; go_light; simp only [qah, qfc, qnf, qxb, Bool.not_eq_true, beq_iff_eq, bne_iff_ne, beq_eq_false_iff_ne, bne_eq_false_iff_eq, ne_eq] at *; omega)
  · by_cases ho : qqj r = true
    · have hr := h1 ho
      clear h0 h1
      go_enter Tryz.func144, Tryz.ntmps144
      go_wp2_with (first | (go_at_call 169; refine (qii _ _).mono ?_; rintro e w' ⟨rfl, rfl⟩) | (go_at_call 170; refine (qng _ _).mono ?_; rintro e w' ⟨rfl, rfl⟩))
      all_goals go_ret
      all_goals refine ⟨qhf ?_, rfl⟩
      all_goals (have hc := HC.out; go_light; simp only [qah, qfc, qnf, qxb, Bool.not_eq_true, beq_iff_eq, bne_iff_ne, beq_eq_false_iff_ne, bne_eq_false_iff_eq, ne_eq] at *; omega)
    · clear h0 h1
      go_enter Tryz.func144, Tryz.ntmps144
      go_wp2_with (first | (go_at_call 169; refine (qii _ _).mono ?_; rintro e w' ⟨rfl, rfl⟩) | (go_at_call 170; refine (qng _ _).mono ?_; rintro e w' ⟨rfl, rfl⟩))
      all_goals go_ret
      all_goals refine ⟨qhf ?_, rfl⟩
      all_goals (have hc := HC.out; go_light; simp only [qah, qfc, qnf, qxb, Bool.not_eq_true, beq_iff_eq, bne_iff_ne, beq_eq_false_iff_ne, bne_eq_false_iff_eq, ne_eq] at *; omega)
theorem qxd (r : Int) (w : World) :
    Calls Tryz.prog 145 #[.int .i32 r] w fun e w' => e = .returned (.int .i32 (qwj r)) ∧ w' = w := by
  go_enter Tryz.func145, Tryz.ntmps145
  go_wp2_with (go_at_call 144; refine (zch _ _).mono ?_; rintro e w' ⟨rfl, rfl⟩)
  all_goals go_ret
  all_goals refine ⟨qhf ?_, rfl⟩
  all_goals (unfold qwj; simp at *; simp [*])
theorem qxe (r : Int) (w : World) :
    Calls Tryz.prog 124 #[.int .i32 r] w fun e w' => e = .returned (.bool (qne r)) ∧ w' = w := by
  go_enter Tryz.func124, Tryz.ntmps124
  go_wp2_with (first | (go_at_call 144; refine (zch _ _).mono ?_; rintro e w' ⟨rfl, rfl⟩) | (go_at_call 145; refine (qxd _ _).mono ?_; rintro e w' ⟨rfl, rfl⟩) | (go_at_call 146; refine (zfi _ _).mono ?_; rintro e w' ⟨rfl, rfl⟩))
  all_goals go_ret
  all_goals refine ⟨kk ?_, rfl⟩
  all_goals (unfold qne; simp at *; first | omega | simp [*])
end Go.Proofs.YtclkfideaameoaaGreatDoor.C
namespace Go.Proofs
open Go.Shelf
def Tryz.lays151_ren : Go.Shelf.Ren := ⟨fun | 151 => 115 | 152 => 71 | 137 => 105 | 119 => 67 | 224 => 106 | 225 => 107 | 217 => 133 | 266 => 152 | n => n, fun | 9 => 9 | 21 => 21 | 4 => 4 | 3 => 3 | 5 => 5 | 0 => 0 | 46 => 71 | n => n, fun | n => n⟩
theorem Tryz.lays151 : Go.Proofs.Lays.n151 Tryz.prog Tryz.lays151_ren := {
  mixed := by kernel_rfl
  f119 := Tryz.func67.trans (congrArg some (by kernel_rfl))
  f137 := Tryz.func105.trans (congrArg some (by kernel_rfl))
  f151 := Tryz.func115.trans (congrArg some (by kernel_rfl))
  f152 := Tryz.func71.trans (congrArg some (by kernel_rfl))
  f217 := Tryz.func133.trans (congrArg some (by kernel_rfl))
  f224 := Tryz.func106.trans (congrArg some (by kernel_rfl))
  f225 := Tryz.func107.trans (congrArg some (by kernel_rfl))
  f266 := Tryz.func152.trans (congrArg some (by kernel_rfl))
  t0 := Tryz.underlying0
  a0 := Tryz.isAgg0
  z0 := Tryz.sizeOf0
  v0 := Tryz.zeroValue0
  t3 := Tryz.underlying3
  a3 := Tryz.isAgg3
  z3 := Tryz.sizeOf3
  v3 := Tryz.zeroValue3
  t4 := Tryz.underlying4
  a4 := Tryz.isAgg4
  z4 := Tryz.sizeOf4
  v4 := Tryz.zeroValue4
  t5 := Tryz.underlying5
  a5 := Tryz.isAgg5
  z5 := Tryz.sizeOf5
  v5 := Tryz.zeroValue5
  t9 := Tryz.underlying9
  a9 := Tryz.isAgg9
  z9 := Tryz.sizeOf9
  v9 := Tryz.zeroValue9
  t21 := Tryz.underlying21
  a21 := Tryz.isAgg21
  z21 := Tryz.sizeOf21
  v21 := Tryz.zeroValue21
  t46 := Tryz.underlying71
  a46 := Tryz.isAgg71
  z46 := Tryz.sizeOf71
  v46 := Tryz.zeroValue71 }
open Go.RowKit Go.Lib in
theorem Tryz.strings_ContainsRune_ascii (s : ByteArray) (r : Int) (w : World) (h0 : 0 ≤ r) (h1 : r < 128) :
    Calls Tryz.prog 115 #[.string s, .int .i32 r] w fun e w' => e = .returned (.bool (decide (0 ≤ Lib.indexByte s.data.toList r.toNat.toUInt8))) ∧ w' = w := Any.strings_ContainsRune_ascii Tryz.lays151 s r w h0 h1
def Tryz.laysAppend_ren : Go.Shelf.Ren := ⟨fun | 242 => 84 | 278 => 114 | n => n, fun | 37 => 27 | 21 => 21 | 51 => 99 | 4 => 4 | 5 => 5 | 46 => 71 | n => n, fun | n => n⟩
theorem Tryz.laysAppend : Go.Proofs.Lays.n242 Tryz.prog Tryz.laysAppend_ren := {
  mixed := by kernel_rfl
  f242 := Tryz.func84.trans (congrArg some (by kernel_rfl))
  f278 := Tryz.func114.trans (congrArg some (by kernel_rfl))
  t4 := Tryz.underlying4
  a4 := Tryz.isAgg4
  z4 := Tryz.sizeOf4
  v4 := Tryz.zeroValue4
  t5 := Tryz.underlying5
  a5 := Tryz.isAgg5
  z5 := Tryz.sizeOf5
  v5 := Tryz.zeroValue5
  t21 := Tryz.underlying21
  a21 := Tryz.isAgg21
  z21 := Tryz.sizeOf21
  v21 := Tryz.zeroValue21
  t37 := Tryz.underlying27
  a37 := Tryz.isAgg27
  z37 := Tryz.sizeOf27
  v37 := Tryz.zeroValue27
  t46 := Tryz.underlying71
  a46 := Tryz.isAgg71
  z46 := Tryz.sizeOf71
  v46 := Tryz.zeroValue71
  t51 := Tryz.underlying99
  a51 := Tryz.isAgg99
  z51 := Tryz.sizeOf99
  v51 := Tryz.zeroValue99 }
def Tryz.lays119_ren : Go.Shelf.Ren := ⟨fun | 119 => 67 | n => n, fun | 21 => 21 | 4 => 4 | n => n, fun | n => n⟩
theorem Tryz.lays119 : Go.Proofs.Lays.n119 Tryz.prog Tryz.lays119_ren := {
  mixed := by kernel_rfl
  f119 := Tryz.func67.trans (congrArg some (by kernel_rfl))
  t4 := Tryz.underlying4
  a4 := Tryz.isAgg4
  z4 := Tryz.sizeOf4
  v4 := Tryz.zeroValue4
  t21 := Tryz.underlying21
  a21 := Tryz.isAgg21
  z21 := Tryz.sizeOf21
  v21 := Tryz.zeroValue21 }
theorem Tryz.utf8_ValidRune (r : Int) (w : World) :
    Calls Tryz.prog 67 #[.int .i32 r] w fun e w' => e = .returned (.bool (Lib.validRune r)) ∧ w' = w := Any.utf8_ValidRune Tryz.lays119 r w
def Tryz.laysValid_ren : Go.Shelf.Ren := ⟨fun | 196 => 24 | 259 => 41 | n => n, fun | 9 => 9 | 4 => 4 | 3 => 3 | 5 => 5 | 12 => 12 | 119 => 67 | 0 => 0 | 46 => 71 | 139 => 70 | 138 => 69 | 53 => 94 | n => n, fun | 3 => 0 | 4 => 1 | n => n⟩
theorem Tryz.laysValid : Go.Proofs.Lays.n196 Tryz.prog Tryz.laysValid_ren := {
  mixed := by kernel_rfl
  f196 := Tryz.func24.trans (congrArg some (by kernel_rfl))
  f259 := Tryz.func41.trans (congrArg some (by kernel_rfl))
  t0 := Tryz.underlying0
  a0 := Tryz.isAgg0
  z0 := Tryz.sizeOf0
  v0 := Tryz.zeroValue0
  t3 := Tryz.underlying3
  a3 := Tryz.isAgg3
  z3 := Tryz.sizeOf3
  v3 := Tryz.zeroValue3
  t4 := Tryz.underlying4
  a4 := Tryz.isAgg4
  z4 := Tryz.sizeOf4
  v4 := Tryz.zeroValue4
  t5 := Tryz.underlying5
  a5 := Tryz.isAgg5
  z5 := Tryz.sizeOf5
  v5 := Tryz.zeroValue5
  t9 := Tryz.underlying9
  a9 := Tryz.isAgg9
  z9 := Tryz.sizeOf9
  v9 := Tryz.zeroValue9
  t12 := Tryz.underlying12
  a12 := Tryz.isAgg12
  z12 := Tryz.sizeOf12
  v12 := Tryz.zeroValue12
  t46 := Tryz.underlying71
  a46 := Tryz.isAgg71
  z46 := Tryz.sizeOf71
  v46 := Tryz.zeroValue71
  t53 := Tryz.underlying94
  a53 := Tryz.isAgg94
  z53 := Tryz.sizeOf94
  v53 := Tryz.zeroValue94
  t119 := Tryz.underlying67
  a119 := Tryz.isAgg67
  z119 := Tryz.sizeOf67
  t138 := Tryz.underlying69
  a138 := Tryz.isAgg69
  z138 := Tryz.sizeOf69
  v138 := Tryz.zeroValue69
  t139 := Tryz.underlying70
  a139 := Tryz.isAgg70
  z139 := Tryz.sizeOf70
  v139 := Tryz.zeroValue70
  g3 := by kernel_rfl
  g4 := by kernel_rfl }
end Go.Proofs
namespace Go.Proofs.YtclkfideaameoaaGreatDoor.C
open Go.RowKit

def Asc (s : ByteArray) : Prop := ∀ (j : Nat) b, s.data.toList[j]? = some b → b.toNat < 128
set_option maxRecDepth 1000000 in
theorem zfj (s : ByteArray) (hs : Asc s) (w : World) : Calls Tryz.prog 71 #[.string s, .int .i32 65533] w fun e w' => e = .returned (.int .i64 (-1)) ∧ Below w.heap.size w w' := by
  go_enter Tryz.func71, Tryz.ntmps71
  go_wp2
  go_loopw [] (fun wr => ∃ (pos : Nat), wr.heap[w.heap.size]? = some (.stringIter s pos) ∧ Below w.heap.size w wr) (fun wr => s.size - wr.iterPos w.heap.size)
  case atStart =>
    refine ⟨0, ?_, (Below.refl _ w).alloc (Nat.le_refl _) _⟩
    simpa using World.iter_heap w s 0
  case round =>
    obtain ⟨pos, hit, hbw⟩ := hrel
    have hsz : w.heap.size < wr.heap.size := (Array.getElem?_eq_some_iff.1 hit).1
    by_cases hp : pos < s.size
    · have hnx : ∀ ty, (Instr.next (.pointer (some ⟨w.heap.size, 0, none⟩)) true ty).run Tryz.prog wr = _ := fun ty => Lib.run_next_any_at wr w.heap.size s pos ty hit hp
      have ha : (s[pos]'hp).toNat < 128 := hs pos _ (by simp [hp]; rfl)
      have hd := decode_ascii s pos hp ha
      have hit2 := Lib.iterAt_heap wr w.heap.size s pos (pos + 1) hit
      have hbw2 := Lib.below_iterAt hbw (k := w.heap.size) (by omega) s (pos + 1)
      rw [hd] at hnx
      have hq : ((((s[pos]'hp).toNat : Nat) : Int) == 65533) = false := by simp; omega
      go_wp2
      go_roundw
      case rel => exact ⟨pos + 1, hit2, hbw2⟩
      case measure =>
        simp only [World.iterPos, hit2, hit]
        omega
    · have hnx : ∀ ty, (Instr.next (.pointer (some ⟨w.heap.size, 0, none⟩)) true ty).run Tryz.prog wr = _ := fun ty => Lib.run_next_end_at wr w.heap.size s pos ty hit hp
      go_wp2
      go_ret
      exact ⟨rfl, hbw⟩
theorem qmc {c : UInt8} : ∀ l : List UInt8, (∀ b ∈ l, b ≠ c) → Lib.indexByte l c = -1
  | [], _ => rfl
  | b :: l, h => by
    have h1 : b ≠ c := h b (by simp)
    have h2 := qmc l (fun x hx => h x (by simp [hx]))
    simp [Lib.indexByte, h1, h2]
set_option maxRecDepth 1000000 in
theorem zga (s : ByteArray) (hs : Asc s) (h4 : 4 ≤ s.size) (h5 : s.size ≤ 100) (r : Int) (h0 : 128 ≤ r) (h1 : r ≤ 1114111) (hl : Lib.validRune r = true) (hr : r ≠ 65533) (w : World) : Calls Tryz.prog 71 #[.string s, .int .i32 r] w fun e w' => e = .returned (.int .i64 (-1)) ∧ Below w.heap.size w w' := by
  go_enter Tryz.func71, Tryz.ntmps71
  go_wp2_with (go_at_call 67; refine (Tryz.utf8_ValidRune _ _).mono ?_; rintro e w' ⟨rfl, rfl⟩)
  have hv : Utf8.valid r = true := by
    rw [validRune_eq]; unfold validRune; unfold Lib.validRune at hl; apply decide_eq_true; have := of_decide_eq_true hl; omega
  have hE : 2 ≤ (Utf8.encode r).size ∧ (Utf8.encode r).size ≤ 4 ∧ ∀ h : (Utf8.encode r).size - 1 < (Utf8.encode r).size, 128 ≤ ((Utf8.encode r)[(Utf8.encode r).size - 1]'h).toNat := encode_facts r hv h0
  have hcv : ∀ w, (convert 21 9 (.int .i32 r)).run Tryz.prog w = .ok (.string (Utf8.encode r)) w := fun w => run_convert_int_string w _ _ .i32 r (by kernel_rfl) Tryz.underlying9
  refine wp_scope_straight ?_
  go_wp2
  have mixed : Tryz.prog.follows .mixedOrders = true := by kernel_rfl
  obtain ⟨m, hm⟩ : ∃ m : Nat, (Utf8.encode r).size = m + 1 := ⟨(Utf8.encode r).size - 1, by omega⟩
  have hm0 : (((Utf8.encode r).size : Int) - 1) = ((m : Nat) : Int) := by omega
  have hi1 : m < s.size := by omega
  have hi2 : m < (Utf8.encode r).size := by omega
  have hE3 : 128 ≤ ((Utf8.encode r)[m]'hi2).toNat := by
    have := hE.2.2
    simp only [hm, Nat.add_sub_cancel] at this
    exact this (by omega)
  have hsm : (s[m]'hi1).toNat < 128 := hs m _ (by simp [hi1]; rfl)
  have hq : ((s[m]'hi1).toNat != ((Utf8.encode r)[m]'hi2).toNat) = true := by simp; omega
  clear hE hm
  go_loop [9] (fun i => i = .int .i64 ((m : Nat) : Int)) (fun i => 0)
  case atStart => rw [hm0]
  case round =>
    subst hrel
    rw [hm0]
    go_wp2
    refine wp_scope_straight ?_
    go_wp2
    go_region_o
    all_goals go_wp2
    have hib : Lib.indexByte (List.take (s.size - (m + 1)) (List.drop (m + 1) s.data.toList)) ((Utf8.encode r)[m]'hi2) = -1 := qmc _ (fun b hb => by
      obtain ⟨k, hk, hkb⟩ := List.getElem_of_mem (List.mem_of_mem_drop (List.mem_of_mem_take hb))
      have := hs k b (by rw [List.getElem?_eq_getElem hk, hkb])
      intro e
      rw [e] at this
      omega)
    have hsl : ((m : Nat) : Int) + 1 ≤ (s.size : Int) := by omega
    have hsn : m + 1 ≤ s.size := by omega
    have hs0 : (0 : Int) ≤ ((m : Nat) : Int) + 1 := by omega
    have hsr : ∀ w k, (Instr.slice 9 (.string s) (some (.int k (((m : Nat) : Int) + 1))) none none).run Tryz.prog w = .ok (.string (s.extract (m + 1) s.size)) w := fun w k => by
      rw [run_slice_string_from_if w _ s k _ Tryz.underlying9, if_pos ⟨hs0, hsl⟩]; rfl
    have hwr : IntKind.i64.wrap (((m : Nat) : Int) + 1) = ((m : Nat) : Int) + 1 := wrap_small _ (by omega) (by omega)
    clear hsl hsn hs0
    go_region_with_o (go_at_call 105; refine (Tryz.strings_IndexByte _ _ _).mono ?_; rintro e w2 ⟨rfl, rfl⟩)
    all_goals go_wp2
    all_goals (show bodyPost Tryz.prog Tryz.f71 (fun e w1 => e = Ending.returned (Value.int .i64 (-1)) ∧ Below w'.heap.size w' w1) .ret _ _; go_ret; exact ⟨rfl, ((Below.refl _ _).drew).drew⟩)
def OkR (r : Int) : Prop := (0 ≤ r ∧ r < 55296) ∨ (57343 < r ∧ r ≤ 1114111)
theorem OkR.valid {r : Int} (h : OkR r) : Lib.validRune r = true := decide_eq_true h
theorem qij (s : ByteArray) (hs : Asc s) (h4 : 4 ≤ s.size) (h5 : s.size ≤ 100) (r : Int) (h : OkR r) (h0 : 128 ≤ r) (w : World) : Calls Tryz.prog 115 #[.string s, .int .i32 r] w fun e w' => e = .returned (.bool false) ∧ Below w.heap.size w w' := by
  have HC : Hid (Calls Tryz.prog 71 #[.string s, .int .i32 r] w fun e w' => e = .returned (.int .i64 (-1)) ∧ Below w.heap.size w w') := by
    by_cases hr : r = 65533
    · subst hr; exact zfj s hs w
    · exact zga s hs h4 h5 r h0 (by unfold OkR at h; omega) h.valid hr w
  go_enter Tryz.func115, Tryz.ntmps115
  go_wp2_with (go_at_call 71; refine HC.out.mono ?_; rintro e w' ⟨rfl, hb⟩)
  go_ret
  exact ⟨rfl, hb⟩
def S4 : ByteArray := ⟨#[43, 45, 46, 64]⟩
def S14 : ByteArray := ⟨#[33, 36, 37, 38, 42, 47, 58, 60, 61, 62, 63, 94, 95, 126]⟩
theorem jde : Asc S4 := fun j b h => (by decide +kernel : ∀ b ∈ S4.data.toList, b.toNat < 128) b (List.mem_of_getElem? h)
theorem jab : Asc S14 := fun j b h => (by decide +kernel : ∀ b ∈ S14.data.toList, b.toNat < 128) b (List.mem_of_getElem? h)
def in4 (r : Int) : Bool := decide (r = 43 ∨ r = 45 ∨ r = 46 ∨ r = 64)
def zkg (r : Int) : Bool := decide (r = 33 ∨ r = 36 ∨ r = 37 ∨ r = 38 ∨ r = 42 ∨ r = 47 ∨ r = 58 ∨ r = 60 ∨ r = 61 ∨ r = 62 ∨ r = 63 ∨ r = 94 ∨ r = 95 ∨ r = 126)
theorem ix4 : ∀ k : Nat, k < 128 → decide (0 ≤ Lib.indexByte S4.data.toList (k : Int).toNat.toUInt8) = in4 k := by decide +kernel
theorem jdf : ∀ k : Nat, k < 128 → decide (0 ≤ Lib.indexByte S14.data.toList (k : Int).toNat.toUInt8) = zkg k := by decide +kernel
theorem jac (r : Int) (h : OkR r) (w : World) : Calls Tryz.prog 115 #[.string S4, .int .i32 r] w fun e w' => e = .returned (.bool (in4 r)) ∧ Below w.heap.size w w' := by
  by_cases hr : r < 128
  · have h0 : 0 ≤ r := by unfold OkR at h; omega
    refine (Tryz.strings_ContainsRune_ascii S4 r w h0 hr).mono ?_
    rintro e w' ⟨rfl, rfl⟩
    have := ix4 r.toNat (by omega)
    rw [Int.toNat_of_nonneg h0] at this
    exact ⟨by rw [this], Below.refl _ _⟩
  · refine (qij S4 jde (by decide) (by decide) r h (by omega) w).mono ?_
    rintro e w' ⟨rfl, hb⟩
    exact ⟨by rw [show in4 r = false from by unfold in4; apply decide_eq_false; omega], hb⟩
theorem zwj (r : Int) (h : OkR r) (w : World) : Calls Tryz.prog 115 #[.string S14, .int .i32 r] w fun e w' => e = .returned (.bool (zkg r)) ∧ Below w.heap.size w w' := by
  by_cases hr : r < 128
  · have h0 : 0 ≤ r := by unfold OkR at h; omega
    refine (Tryz.strings_ContainsRune_ascii S14 r w h0 hr).mono ?_
    rintro e w' ⟨rfl, rfl⟩
    have := jdf r.toNat (by omega)
    rw [Int.toNat_of_nonneg h0] at this
    exact ⟨by rw [this], Below.refl _ _⟩
  · refine (qij S14 jab (by decide) (by decide) r h (by omega) w).mono ?_
    rintro e w' ⟨rfl, hb⟩
    exact ⟨by rw [show zkg r = false from by unfold zkg; apply decide_eq_false; omega], hb⟩
def firstB (r : Int) : Bool := qne r || zkg r || (decide (127 < r) && !blankB r)
def restB (r : Int) : Bool := decide (48 ≤ r ∧ r ≤ 57) || in4 r
def S6 : ByteArray := ⟨#[40, 41, 91, 93, 34, 59]⟩
theorem jdg : Asc S6 := fun j b h => (by decide +kernel : ∀ b ∈ S6.data.toList, b.toNat < 128) b (List.mem_of_getElem? h)
def in6 (r : Int) : Bool := decide (r = 40 ∨ r = 41 ∨ r = 91 ∨ r = 93 ∨ r = 34 ∨ r = 59)
theorem ix6 : ∀ k : Nat, k < 128 → decide (0 ≤ Lib.indexByte S6.data.toList (k : Int).toNat.toUInt8) = in6 k := by decide +kernel
theorem jad (r : Int) (h : OkR r) (w : World) : Calls Tryz.prog 115 #[.string S6, .int .i32 r] w fun e w' => e = .returned (.bool (in6 r)) ∧ Below w.heap.size w w' := by
  by_cases hr : r < 128
  · have h0 : 0 ≤ r := by unfold OkR at h; omega
    refine (Tryz.strings_ContainsRune_ascii S6 r w h0 hr).mono ?_
    rintro e w' ⟨rfl, rfl⟩
    have := ix6 r.toNat (by omega)
    rw [Int.toNat_of_nonneg h0] at this
    exact ⟨by rw [this], Below.refl _ _⟩
  · refine (qij S6 jdg (by decide) (by decide) r h (by omega) w).mono ?_
    rintro e w' ⟨rfl, hb⟩
    exact ⟨by rw [show in6 r = false from by unfold in6; apply decide_eq_false; omega], hb⟩
def delimB (r : Int) : Bool := blankB r || in6 r
theorem delimits_any (r : Int) (h : OkR r) (w : World) : Calls Tryz.prog 85 #[.int .i32 r] w fun e w' => e = .returned (.bool (delimB r)) ∧ Below w.heap.size w w' := by
  have HC : Hid _ := jad r h w
  clear h
  go_enter Tryz.func85, Tryz.ntmps85
  go_wp2_with (first | (go_at_call 115; refine Calls.mono HC.out ?_; rintro e w' ⟨rfl, hb⟩) | (go_at_call 30; refine (blank_any _ _).mono ?_; rintro e w' ⟨rfl, rfl⟩))
  all_goals go_ret
  all_goals refine ⟨kk ?_, by first | assumption | exact Below.refl _ _⟩
  all_goals (show (_ : Bool) = delimB r; unfold delimB; simp [*])
theorem isRestD_any (r : Int) (h : OkR r) (w : World) : Calls Tryz.prog 99 #[.int .i32 r] w fun e w' => e = .returned (.bool (restB r)) ∧ Below w.heap.size w w' := by
  have HC : Hid _ := jac r h w
  clear h
  go_enter Tryz.func99, Tryz.ntmps99
  go_wp2_with (go_at_call 115; refine Calls.mono HC.out ?_; rintro e w' ⟨rfl, hb⟩)
  all_goals go_ret
  all_goals refine ⟨kk ?_, by first | assumption | exact Below.refl _ _⟩
  all_goals (show (_ : Bool) = restB r; unfold restB; cases in4 r <;> simp at * <;> omega)
theorem isFirstD_any (r : Int) (h : OkR r) (w : World) : Calls Tryz.prog 97 #[.int .i32 r] w fun e w' => e = .returned (.bool (firstB r)) ∧ Below w.heap.size w w' := by
  have HC : Hid _ := zwj r h w
  clear h
  go_enter Tryz.func97, Tryz.ntmps97
  go_wp2_with (first | (go_at_call 115; refine Calls.mono HC.out ?_; rintro e w' ⟨rfl, hb⟩) | (go_at_call 124; refine (qxe _ _).mono ?_; rintro e w' ⟨rfl, rfl⟩) | (go_at_call 30; refine (blank_any _ _).mono ?_; rintro e w' ⟨rfl, rfl⟩))
  all_goals go_ret
  all_goals refine ⟨kk ?_, by first | assumption | exact Below.refl _ _⟩
  all_goals (show (_ : Bool) = firstB r; unfold firstB; simp [*]; try (intro _; omega))
end Go.Proofs.YtclkfideaameoaaGreatDoor.C
namespace Go.Proofs.YtclkfideaameoaaGreatDoor.G
open Go.RowKit
set_option maxRecDepth 100000

theorem uy (l : List UInt8) : C.OkR (((dcX l).1 : Nat) : Int) := by
 by_cases h : l = []
 ·
  subst h; exact .inr ⟨by decide, by decide⟩
 ·
  rw [qwi h]
  have := qig l
  unfold C.OkR
  omega
def ue : Nat → List UInt8 → Nat
 | 0, _ => 0
 | f + 1, l => if l.isEmpty = true then 0 else if C.delimB (((dcX l).1 : Nat) : Int) = true then 0 else (if (((dcX l).1 : Nat) : Int) = 92 then (dcX l).2 + yh (l.drop (dcX l).2) else (dcX l).2) + ue f (l.drop (if (((dcX l).1 : Nat) : Int) = 92 then (dcX l).2 + yh (l.drop (dcX l).2) else (dcX l).2))
theorem zri (f : Nat) : ue f [] = 0 := by cases f <;> rfl
theorem zkh {f : Nat} {l : List UInt8} (hd : C.delimB (((dcX l).1 : Nat) : Int) = true) : ue f l = 0 := by
 cases f with
 | zero => rfl
 | succ f =>
  rw [ue]
  by_cases he : l.isEmpty = true
  ·
   rw [if_pos he]
  ·
   rw [if_neg he, if_pos hd]
theorem zki {f : Nat} {l : List UInt8} {m : Nat} (hne : l ≠ []) (hd : C.delimB (((dcX l).1 : Nat) : Int) = false) (hm : (if (((dcX l).1 : Nat) : Int) = 92 then (dcX l).2 + yh (l.drop (dcX l).2) else (dcX l).2) = m) : ue (f + 1) l = m + ue f (l.drop m) := by
 rw [ue, if_neg (fun k => hne (List.isEmpty_iff.1 k)), if_neg (by rw [hd]; decide), hm]
theorem qra {w : World} {r : Int} {b : Bool} (h : C.OkR r) (hb : C.delimB r = b) : Calls Tryz.prog 85 #[.int .i32 r] w fun e w' => e = .returned (bV b) ∧ Below w.heap.size w w' := hb ▸ C.delimits_any r h w
theorem qfd {w : World} {l : List UInt8} (hT : Tb w) (hl : l.length ≤ 1000000000) : Calls Tryz.prog 61 #[.string (tx l)] w fun e w' => e = .returned (.string (tx (l.take (ue (l.length + 1) l)))) ∧ Below w.heap.size w w' := by
 have M : Mg w w ([]) := Mg.start w
 refine qw (l := [(0, .string ((tx l)))]) Tryz.func61 rfl Tryz.ntmps61 rfl rfl ?_
 intro Q hret hnorm hP a A
 refine wsk fun K1 hK1 => wrl (sda A λa A↦?_)
 refine qa (hK1 _ _ (wsk fun K2 hK2 => wrl (sda A λa A↦?_)))
 refine qa (hK2 _ _ (wsk fun K3 hK3 => wp_block (jj (fun m_ a w1 => ∃ (n : Nat) (f : Nat), m_ = 1 + (l.length - n) ∧ (n ≤ l.length ∧ l.length - n < f ∧ ue (l.length + 1) l = n + ue f (l.drop n)) ∧ Sl a 33 [(0, .string ((tx l))), (2, .string (⟨#[]⟩)), (3, iV (((n : Nat) : Int)))] ∧ Mg w w1 ([])) _ ⟨0, l.length + 1, rfl, ⟨Nat.zero_le _, by omega, by rw [Nat.zero_add]; rfl⟩, A.keep _ ⟨rfl, rfl, rfl, trivial⟩, M⟩ ?_)))
 clear M A
 rintro m_ a w4 ⟨n, f, rfl, hinv6, A, M⟩ K5 hK5
 obtain ⟨hn0, hf0, hn⟩ := hinv6
 obtain ⟨f, rfl⟩ : ∃ f1, f = f1 + 1 := ⟨f - 1, by omega⟩
 refine wsk fun K7 hK7 => wsk fun K8 hK8 => wrl ?_
 iterate 2 refine sdm A λa A↦?_
 refine sdo (v := iV (((l.length : Nat) : Int))) A (qy (s := l) Tryz.underlying9 rfl) λa A↦?_
 rcases tf (decide (((n : Nat) : Int) < ((l.length : Nat) : Int))) with hb9 | hb9
 ·
  have hb9' := of_decide_eq_true hb9
  refine sdc A jk hb9 λa A↦?_
  refine qa (hK8 _ _ (ct A ?_))
  refine wp_skip (hK7 _ _ (wp_block (wsk fun K10 hK10 => wrl ?_)))
  iterate 2 refine sdm A λa A↦?_
  refine sdo (v := .string ((tx (l.drop n)))) A (ja (s := l) (p := n) Tryz.underlying9 rfl rfl rfl (by omega)) λa A↦?_
  have hne : l.drop n ≠ [] := fun k => by have := congrArg List.length k; rw [List.length_drop] at this; simp at this; omega
  obtain ⟨hw1, hw2⟩ := xx hne
  rw [List.length_drop] at hw2
  refine gcl A M (ef rfl rfl) (qfb (l := l.drop n) (hT.below M.bel)) fun w12 hb11 M a A => ?_
  refine sdm A λa A↦?_
  iterate 2 refine sdo A (qi (vs := [.int .i32 ((((dcX (l.drop n)).1 : Nat) : Int)), iV ((((dcX (l.drop n)).2 : Nat) : Int))]) rfl rfl) λa A↦?_
  iterate 2 refine sda A λa A↦?_
  refine qa (hK10 _ _ (wsk fun K13 hK13 => wsk fun K14 hK14 => wrl (sdm A λa A↦?_)))
  rcases tf (C.delimB (((dcX (l.drop n)).1 : Nat) : Int)) with hb15 | hb15
  ·
   refine gcl A M (ef rfl rfl) ((qra (uy _) hb15)) fun w17 hb16 M a A => ?_
   refine qa (hK14 _ _ (ct A ?_))
   refine wp_exit (hK3 _ _ (wsk fun K18 hK18 => wrl ?_))
   iterate 2 refine sdm A λa A↦?_
   refine sdo (v := .string ((tx (l.take n)))) A (qcc (s := l) (p := n) Tryz.underlying9 rfl rfl rfl (by omega)) λa A↦?_
   refine sda A λa A↦?_
   refine qa (hK18 _ _ (wr1 hret A ?_))
   exact ⟨by rw [hn, show ue (f + 1) (l.drop n) = 0 from zkh hb15, Nat.add_zero], M.bel⟩
  ·
   refine gcl A M (ef rfl rfl) ((qra (uy _) hb15)) fun w20 hb19 M a A => ?_
   refine qa (hK14 _ _ (cf A ?_))
   refine wp_skip (hK13 _ _ (wsk fun K21 hK21 => wrl ?_))
   iterate 2 refine sdm A λa A↦?_
   refine sdo (v := iV (((n + (dcX (l.drop n)).2 : Nat) : Int))) A (qb rfl rfl (ar_add ((in_i64 (by omega) (by omega)).trans (by omega)))) λa A↦?_
   refine sda A λa A↦?_
   refine qa (hK21 _ _ (wsk fun K22 hK22 => wrl (sdm A λa A↦?_)))
   rcases tf (((((dcX (l.drop n)).1 : Nat) : Int) == 92)) with hb23 | hb23
   ·
    have hb23' := eq_of_beq hb23
    refine sdc A qj hb23 λa A↦?_
    refine qa (hK22 _ _ (ct A ?_))
    refine wrl ?_
    iterate 3 refine sdm A λa A↦?_
    refine sdo (v := .string ((tx (l.drop (n + (dcX (l.drop n)).2))))) A (ja (s := l) (p := n + (dcX (l.drop n)).2) Tryz.underlying9 rfl rfl rfl (by omega)) λa A↦?_
    have ht25 := zkd (l.drop (n + (dcX (l.drop n)).2))
    rw [List.length_drop] at ht25
    refine gcl A M (ef rfl rfl) (zkf (l := l.drop (n + (dcX (l.drop n)).2)) (hT.below M.bel) (by rw [List.length_drop]; omega)) fun w26 hb24 M a A => ?_
    refine sdo (v := iV (((n + (dcX (l.drop n)).2 + yh (l.drop (n + (dcX (l.drop n)).2)) : Nat) : Int))) A (qb rfl rfl (ar_add ((in_i64 (by omega) (by omega)).trans (by omega)))) λa A↦?_
    refine sda A λa A↦?_
    refine qa ?_
    have e7 := zki (f := f) hne hb15 (if_pos (eq_of_beq hb23))
    simp only [List.drop_drop] at e7
    refine hK5 _ _ _ (by omega) ⟨n + (dcX (l.drop n)).2 + yh (l.drop (n + (dcX (l.drop n)).2)), f, rfl, ⟨by omega, by omega, by rw [hn, e7, Nat.add_assoc n (dcX (l.drop n)).2 _]; exact (Nat.add_assoc _ _ _).symm⟩, A.keep _ ⟨rfl, rfl, rfl, trivial⟩, M⟩
   ·
    have hb23' := ne_of_beq_false hb23
    refine sdc A qj hb23 λa A↦?_
    refine qa (hK22 _ _ (cf A ?_))
    refine wp_skip ?_
    refine hK5 _ _ _ (by omega) ⟨n + (dcX (l.drop n)).2, f, rfl, ⟨by omega, by omega, by rw [hn, zki hne hb15 (if_neg (ne_of_beq_false hb23)), List.drop_drop, Nat.add_assoc]⟩, A.keep _ ⟨rfl, rfl, rfl, trivial⟩, M⟩
 ·
  have hb9' := of_decide_eq_false hb9
  refine sdc A jk hb9 λa A↦?_
  refine qa (hK8 _ _ (cf A ?_))
  refine wp_exit (hK3 _ _ (wsk fun K27 hK27 => wrl ?_))
  iterate 2 refine sdm A λa A↦?_
  refine sdo (v := .string ((tx (l.take n)))) A (qcc (s := l) (p := n) Tryz.underlying9 rfl rfl rfl (by omega)) λa A↦?_
  refine sda A λa A↦?_
  refine qa (hK27 _ _ (wr1 hret A ?_))
  exact ⟨by rw [hn, show ue (f + 1) (l.drop n) = 0 from (by rw [List.drop_eq_nil_of_le (by omega)]; exact zri _), Nat.add_zero], M.bel⟩
def kt (l : List UInt8) : Option Int := if l = [110, 117, 108] then some 0 else if l = [97, 108, 97, 114, 109] then some 7 else if l = [98, 97, 99, 107, 115, 112, 97, 99, 101] then some 8 else if l = [116, 97, 98] then some 9 else if l = [108, 105, 110, 101, 102, 101, 101, 100] then some 10 else if l = [110, 101, 119, 108, 105, 110, 101] then some 10 else if l = [118, 116, 97, 98] then some 11 else if l = [112, 97, 103, 101] then some 12 else if l = [114, 101, 116, 117, 114, 110] then some 13 else if l = [101, 115, 99] then some 27 else if l = [115, 112, 97, 99, 101] then some 32 else if l = [100, 101, 108, 101, 116, 101] then some 127 else none
def qja (l : List UInt8) : Bool := decide (l.take (ue (l.length + 1) l) = [46])
theorem zci {l : List UInt8} (h : l.take (ue (l.length + 1) l) = [46]) : Lib.hasPrefix l [46] = true := by
 refine List.isPrefixOf_iff_prefix.2 ?_
 rw [← h]
 exact List.take_prefix _ _
theorem zgb {w : World} {l : List UInt8} : Calls Tryz.prog 89 #[.string (tx l)] w fun e w' => e = .returned (.tuple #[.int .i32 ((kt l).getD 0), bV (kt l).isSome]) ∧ Below w.heap.size w w' := by
 have M : Mg w w ([]) := Mg.start w
 refine qw (l := [(0, .string ((tx l)))]) Tryz.func89 rfl Tryz.ntmps89 rfl rfl ?_
 intro Q hret hnorm hP a A
 refine wsk fun K1 hK1 => wrl ?_
 iterate 2 refine sda A λa A↦?_
 refine qa (hK1 _ _ (wsk fun K2 hK2 => wsk fun K3 hK3 => wrl (sdm A λa A↦?_)))
 refine qa (hK3 _ _ (wp_block (wsk fun K4 hK4 => wrl ?_)))
 rcases tf (decide (l = [110, 117, 108])) with hb5 | hb5
 ·
  have hb5' := of_decide_eq_true hb5
  refine sdo (v := bV true) A (qb rfl rfl (fun w => (zl (a := l) (b := [110, 117, 108]) Tryz.underlying9 w).trans (by rw [hb5] <;> rfl))) λa A↦?_
  refine sda A λa A↦?_
  refine qa (hK4 _ _ (ct A ?_))
  refine wsk fun K6 hK6 => wrl ?_
  iterate 2 refine sda A λa A↦?_
  refine qa (hK6 _ _ (wp_ret (hret _ _ (en2 A rfl (qg rfl) (qg rfl) ?_))))
  exact ⟨by unfold kt; rw [if_pos (of_decide_eq_true hb5)]; rfl, M.bel⟩
 ·
  have hb5' := of_decide_eq_false hb5
  refine sdo (v := bV false) A (qb rfl rfl (fun w => (zl (a := l) (b := [110, 117, 108]) Tryz.underlying9 w).trans (by rw [hb5] <;> rfl))) λa A↦?_
  refine sda A λa A↦?_
  refine qa (hK4 _ _ (cf A ?_))
  refine wsk fun K7 hK7 => wrl ?_
  rcases tf (decide (l = [97, 108, 97, 114, 109])) with hb8 | hb8
  ·
   have hb8' := of_decide_eq_true hb8
   refine sdo (v := bV true) A (qb rfl rfl (fun w => (zl (a := l) (b := [97, 108, 97, 114, 109]) Tryz.underlying9 w).trans (by rw [hb8] <;> rfl))) λa A↦?_
   refine sda A λa A↦?_
   refine qa (hK7 _ _ (ct A ?_))
   refine wsk fun K9 hK9 => wrl ?_
   iterate 2 refine sda A λa A↦?_
   refine qa (hK9 _ _ (wp_ret (hret _ _ (en2 A rfl (qg rfl) (qg rfl) ?_))))
   exact ⟨by unfold kt; rw [if_neg (of_decide_eq_false hb5), if_pos (of_decide_eq_true hb8)]; rfl, M.bel⟩
  ·
   have hb8' := of_decide_eq_false hb8
   refine sdo (v := bV false) A (qb rfl rfl (fun w => (zl (a := l) (b := [97, 108, 97, 114, 109]) Tryz.underlying9 w).trans (by rw [hb8] <;> rfl))) λa A↦?_
   refine sda A λa A↦?_
   refine qa (hK7 _ _ (cf A ?_))
   refine wsk fun K10 hK10 => wrl ?_
   rcases tf (decide (l = [98, 97, 99, 107, 115, 112, 97, 99, 101])) with hb11 | hb11
   ·
    have hb11' := of_decide_eq_true hb11
    refine sdo (v := bV true) A (qb rfl rfl (fun w => (zl (a := l) (b := [98, 97, 99, 107, 115, 112, 97, 99, 101]) Tryz.underlying9 w).trans (by rw [hb11] <;> rfl))) λa A↦?_
    refine sda A λa A↦?_
    refine qa (hK10 _ _ (ct A ?_))
    refine wsk fun K12 hK12 => wrl ?_
    iterate 2 refine sda A λa A↦?_
    refine qa (hK12 _ _ (wp_ret (hret _ _ (en2 A rfl (qg rfl) (qg rfl) ?_))))
    exact ⟨by unfold kt; rw [if_neg (of_decide_eq_false hb5), if_neg (of_decide_eq_false hb8), if_pos (of_decide_eq_true hb11)]; rfl, M.bel⟩
   ·
    have hb11' := of_decide_eq_false hb11
    refine sdo (v := bV false) A (qb rfl rfl (fun w => (zl (a := l) (b := [98, 97, 99, 107, 115, 112, 97, 99, 101]) Tryz.underlying9 w).trans (by rw [hb11] <;> rfl))) λa A↦?_
    refine sda A λa A↦?_
    refine qa (hK10 _ _ (cf A ?_))
    refine wsk fun K13 hK13 => wrl ?_
    rcases tf (decide (l = [116, 97, 98])) with hb14 | hb14
    ·
     have hb14' := of_decide_eq_true hb14
     refine sdo (v := bV true) A (qb rfl rfl (fun w => (zl (a := l) (b := [116, 97, 98]) Tryz.underlying9 w).trans (by rw [hb14] <;> rfl))) λa A↦?_
     refine sda A λa A↦?_
     refine qa (hK13 _ _ (ct A ?_))
     refine wsk fun K15 hK15 => wrl ?_
     iterate 2 refine sda A λa A↦?_
     refine qa (hK15 _ _ (wp_ret (hret _ _ (en2 A rfl (qg rfl) (qg rfl) ?_))))
     exact ⟨by unfold kt; rw [if_neg (of_decide_eq_false hb5), if_neg (of_decide_eq_false hb8), if_neg (of_decide_eq_false hb11), if_pos (of_decide_eq_true hb14)]; rfl, M.bel⟩
    ·
     have hb14' := of_decide_eq_false hb14
     refine sdo (v := bV false) A (qb rfl rfl (fun w => (zl (a := l) (b := [116, 97, 98]) Tryz.underlying9 w).trans (by rw [hb14] <;> rfl))) λa A↦?_
     refine sda A λa A↦?_
     refine qa (hK13 _ _ (cf A ?_))
     refine wsk fun K16 hK16 => wsk fun K17 hK17 => wrl ?_
     rcases tf (decide (l = [108, 105, 110, 101, 102, 101, 101, 100])) with hb18 | hb18
     ·
      have hb18' := of_decide_eq_true hb18
      refine sdo (v := bV true) A (qb rfl rfl (fun w => (zl (a := l) (b := [108, 105, 110, 101, 102, 101, 101, 100]) Tryz.underlying9 w).trans (by rw [hb18] <;> rfl))) λa A↦?_
      refine sda A λa A↦?_
      refine qa (hK17 _ _ (ct A ?_))
      refine wp_skip (hK16 _ _ (ct A ?_))
      refine wsk fun K19 hK19 => wrl ?_
      iterate 2 refine sda A λa A↦?_
      refine qa (hK19 _ _ (wp_ret (hret _ _ (en2 A rfl (qg rfl) (qg rfl) ?_))))
      exact ⟨by unfold kt; rw [if_neg (of_decide_eq_false hb5), if_neg (of_decide_eq_false hb8), if_neg (of_decide_eq_false hb11), if_neg (of_decide_eq_false hb14), if_pos (of_decide_eq_true hb18)]; rfl, M.bel⟩
     ·
      have hb18' := of_decide_eq_false hb18
      refine sdo (v := bV false) A (qb rfl rfl (fun w => (zl (a := l) (b := [108, 105, 110, 101, 102, 101, 101, 100]) Tryz.underlying9 w).trans (by rw [hb18] <;> rfl))) λa A↦?_
      refine sda A λa A↦?_
      refine qa (hK17 _ _ (cf A ?_))
      refine wrl ?_
      rcases tf (decide (l = [110, 101, 119, 108, 105, 110, 101])) with hb20 | hb20
      ·
       have hb20' := of_decide_eq_true hb20
       refine sdo (v := bV true) A (qb rfl rfl (fun w => (zl (a := l) (b := [110, 101, 119, 108, 105, 110, 101]) Tryz.underlying9 w).trans (by rw [hb20] <;> rfl))) λa A↦?_
       refine sda A λa A↦?_
       refine qa (hK16 _ _ (ct A ?_))
       refine wsk fun K21 hK21 => wrl ?_
       iterate 2 refine sda A λa A↦?_
       refine qa (hK21 _ _ (wp_ret (hret _ _ (en2 A rfl (qg rfl) (qg rfl) ?_))))
       exact ⟨by unfold kt; rw [if_neg (of_decide_eq_false hb5), if_neg (of_decide_eq_false hb8), if_neg (of_decide_eq_false hb11), if_neg (of_decide_eq_false hb14), if_neg (of_decide_eq_false hb18), if_pos (of_decide_eq_true hb20)]; rfl, M.bel⟩
      ·
       have hb20' := of_decide_eq_false hb20
       refine sdo (v := bV false) A (qb rfl rfl (fun w => (zl (a := l) (b := [110, 101, 119, 108, 105, 110, 101]) Tryz.underlying9 w).trans (by rw [hb20] <;> rfl))) λa A↦?_
       refine sda A λa A↦?_
       refine qa (hK16 _ _ (cf A ?_))
       refine wsk fun K22 hK22 => wrl ?_
       rcases tf (decide (l = [118, 116, 97, 98])) with hb23 | hb23
       ·
        have hb23' := of_decide_eq_true hb23
        refine sdo (v := bV true) A (qb rfl rfl (fun w => (zl (a := l) (b := [118, 116, 97, 98]) Tryz.underlying9 w).trans (by rw [hb23] <;> rfl))) λa A↦?_
        refine sda A λa A↦?_
        refine qa (hK22 _ _ (ct A ?_))
        refine wsk fun K24 hK24 => wrl ?_
        iterate 2 refine sda A λa A↦?_
        refine qa (hK24 _ _ (wp_ret (hret _ _ (en2 A rfl (qg rfl) (qg rfl) ?_))))
        exact ⟨by unfold kt; rw [if_neg (of_decide_eq_false hb5), if_neg (of_decide_eq_false hb8), if_neg (of_decide_eq_false hb11), if_neg (of_decide_eq_false hb14), if_neg (of_decide_eq_false hb18), if_neg (of_decide_eq_false hb20), if_pos (of_decide_eq_true hb23)]; rfl, M.bel⟩
       ·
        have hb23' := of_decide_eq_false hb23
        refine sdo (v := bV false) A (qb rfl rfl (fun w => (zl (a := l) (b := [118, 116, 97, 98]) Tryz.underlying9 w).trans (by rw [hb23] <;> rfl))) λa A↦?_
        refine sda A λa A↦?_
        refine qa (hK22 _ _ (cf A ?_))
        refine wsk fun K25 hK25 => wrl ?_
        rcases tf (decide (l = [112, 97, 103, 101])) with hb26 | hb26
        ·
         have hb26' := of_decide_eq_true hb26
         refine sdo (v := bV true) A (qb rfl rfl (fun w => (zl (a := l) (b := [112, 97, 103, 101]) Tryz.underlying9 w).trans (by rw [hb26] <;> rfl))) λa A↦?_
         refine sda A λa A↦?_
         refine qa (hK25 _ _ (ct A ?_))
         refine wsk fun K27 hK27 => wrl ?_
         iterate 2 refine sda A λa A↦?_
         refine qa (hK27 _ _ (wp_ret (hret _ _ (en2 A rfl (qg rfl) (qg rfl) ?_))))
         exact ⟨by unfold kt; rw [if_neg (of_decide_eq_false hb5), if_neg (of_decide_eq_false hb8), if_neg (of_decide_eq_false hb11), if_neg (of_decide_eq_false hb14), if_neg (of_decide_eq_false hb18), if_neg (of_decide_eq_false hb20), if_neg (of_decide_eq_false hb23), if_pos (of_decide_eq_true hb26)]; rfl, M.bel⟩
        ·
         have hb26' := of_decide_eq_false hb26
         refine sdo (v := bV false) A (qb rfl rfl (fun w => (zl (a := l) (b := [112, 97, 103, 101]) Tryz.underlying9 w).trans (by rw [hb26] <;> rfl))) λa A↦?_
         refine sda A λa A↦?_
         refine qa (hK25 _ _ (cf A ?_))
         refine wsk fun K28 hK28 => wrl ?_
         rcases tf (decide (l = [114, 101, 116, 117, 114, 110])) with hb29 | hb29
         ·
          have hb29' := of_decide_eq_true hb29
          refine sdo (v := bV true) A (qb rfl rfl (fun w => (zl (a := l) (b := [114, 101, 116, 117, 114, 110]) Tryz.underlying9 w).trans (by rw [hb29] <;> rfl))) λa A↦?_
          refine sda A λa A↦?_
          refine qa (hK28 _ _ (ct A ?_))
          refine wsk fun K30 hK30 => wrl ?_
          iterate 2 refine sda A λa A↦?_
          refine qa (hK30 _ _ (wp_ret (hret _ _ (en2 A rfl (qg rfl) (qg rfl) ?_))))
          exact ⟨by unfold kt; rw [if_neg (of_decide_eq_false hb5), if_neg (of_decide_eq_false hb8), if_neg (of_decide_eq_false hb11), if_neg (of_decide_eq_false hb14), if_neg (of_decide_eq_false hb18), if_neg (of_decide_eq_false hb20), if_neg (of_decide_eq_false hb23), if_neg (of_decide_eq_false hb26), if_pos (of_decide_eq_true hb29)]; rfl, M.bel⟩
         ·
          have hb29' := of_decide_eq_false hb29
          refine sdo (v := bV false) A (qb rfl rfl (fun w => (zl (a := l) (b := [114, 101, 116, 117, 114, 110]) Tryz.underlying9 w).trans (by rw [hb29] <;> rfl))) λa A↦?_
          refine sda A λa A↦?_
          refine qa (hK28 _ _ (cf A ?_))
          refine wsk fun K31 hK31 => wrl ?_
          rcases tf (decide (l = [101, 115, 99])) with hb32 | hb32
          ·
           have hb32' := of_decide_eq_true hb32
           refine sdo (v := bV true) A (qb rfl rfl (fun w => (zl (a := l) (b := [101, 115, 99]) Tryz.underlying9 w).trans (by rw [hb32] <;> rfl))) λa A↦?_
           refine sda A λa A↦?_
           refine qa (hK31 _ _ (ct A ?_))
           refine wsk fun K33 hK33 => wrl ?_
           iterate 2 refine sda A λa A↦?_
           refine qa (hK33 _ _ (wp_ret (hret _ _ (en2 A rfl (qg rfl) (qg rfl) ?_))))
           exact ⟨by unfold kt; rw [if_neg (of_decide_eq_false hb5), if_neg (of_decide_eq_false hb8), if_neg (of_decide_eq_false hb11), if_neg (of_decide_eq_false hb14), if_neg (of_decide_eq_false hb18), if_neg (of_decide_eq_false hb20), if_neg (of_decide_eq_false hb23), if_neg (of_decide_eq_false hb26), if_neg (of_decide_eq_false hb29), if_pos (of_decide_eq_true hb32)]; rfl, M.bel⟩
          ·
           have hb32' := of_decide_eq_false hb32
           refine sdo (v := bV false) A (qb rfl rfl (fun w => (zl (a := l) (b := [101, 115, 99]) Tryz.underlying9 w).trans (by rw [hb32] <;> rfl))) λa A↦?_
           refine sda A λa A↦?_
           refine qa (hK31 _ _ (cf A ?_))
           refine wsk fun K34 hK34 => wrl ?_
           rcases tf (decide (l = [115, 112, 97, 99, 101])) with hb35 | hb35
           ·
            have hb35' := of_decide_eq_true hb35
            refine sdo (v := bV true) A (qb rfl rfl (fun w => (zl (a := l) (b := [115, 112, 97, 99, 101]) Tryz.underlying9 w).trans (by rw [hb35] <;> rfl))) λa A↦?_
            refine sda A λa A↦?_
            refine qa (hK34 _ _ (ct A ?_))
            refine wsk fun K36 hK36 => wrl ?_
            iterate 2 refine sda A λa A↦?_
            refine qa (hK36 _ _ (wp_ret (hret _ _ (en2 A rfl (qg rfl) (qg rfl) ?_))))
            exact ⟨by unfold kt; rw [if_neg (of_decide_eq_false hb5), if_neg (of_decide_eq_false hb8), if_neg (of_decide_eq_false hb11), if_neg (of_decide_eq_false hb14), if_neg (of_decide_eq_false hb18), if_neg (of_decide_eq_false hb20), if_neg (of_decide_eq_false hb23), if_neg (of_decide_eq_false hb26), if_neg (of_decide_eq_false hb29), if_neg (of_decide_eq_false hb32), if_pos (of_decide_eq_true hb35)]; rfl, M.bel⟩
           ·
            have hb35' := of_decide_eq_false hb35
            refine sdo (v := bV false) A (qb rfl rfl (fun w => (zl (a := l) (b := [115, 112, 97, 99, 101]) Tryz.underlying9 w).trans (by rw [hb35] <;> rfl))) λa A↦?_
            refine sda A λa A↦?_
            refine qa (hK34 _ _ (cf A ?_))
            refine wsk fun K37 hK37 => wrl ?_
            rcases tf (decide (l = [100, 101, 108, 101, 116, 101])) with hb38 | hb38
            ·
             have hb38' := of_decide_eq_true hb38
             refine sdo (v := bV true) A (qb rfl rfl (fun w => (zl (a := l) (b := [100, 101, 108, 101, 116, 101]) Tryz.underlying9 w).trans (by rw [hb38] <;> rfl))) λa A↦?_
             refine sda A λa A↦?_
             refine qa (hK37 _ _ (ct A ?_))
             refine wsk fun K39 hK39 => wrl ?_
             iterate 2 refine sda A λa A↦?_
             refine qa (hK39 _ _ (wp_ret (hret _ _ (en2 A rfl (qg rfl) (qg rfl) ?_))))
             exact ⟨by unfold kt; rw [if_neg (of_decide_eq_false hb5), if_neg (of_decide_eq_false hb8), if_neg (of_decide_eq_false hb11), if_neg (of_decide_eq_false hb14), if_neg (of_decide_eq_false hb18), if_neg (of_decide_eq_false hb20), if_neg (of_decide_eq_false hb23), if_neg (of_decide_eq_false hb26), if_neg (of_decide_eq_false hb29), if_neg (of_decide_eq_false hb32), if_neg (of_decide_eq_false hb35), if_pos (of_decide_eq_true hb38)]; rfl, M.bel⟩
            ·
             have hb38' := of_decide_eq_false hb38
             refine sdo (v := bV false) A (qb rfl rfl (fun w => (zl (a := l) (b := [100, 101, 108, 101, 116, 101]) Tryz.underlying9 w).trans (by rw [hb38] <;> rfl))) λa A↦?_
             refine sda A λa A↦?_
             refine qa (hK37 _ _ (cf A ?_))
             refine wp_skip (hK2 _ _ (wsk fun K40 hK40 => wrl ?_))
             iterate 2 refine sda A λa A↦?_
             refine qa (hK40 _ _ (wp_ret (hret _ _ (en2 A rfl (qg rfl) (qg rfl) ?_))))
             exact ⟨by unfold kt; rw [if_neg (of_decide_eq_false hb5), if_neg (of_decide_eq_false hb8), if_neg (of_decide_eq_false hb11), if_neg (of_decide_eq_false hb14), if_neg (of_decide_eq_false hb18), if_neg (of_decide_eq_false hb20), if_neg (of_decide_eq_false hb23), if_neg (of_decide_eq_false hb26), if_neg (of_decide_eq_false hb29), if_neg (of_decide_eq_false hb32), if_neg (of_decide_eq_false hb35), if_neg (of_decide_eq_false hb38)]; rfl, M.bel⟩
theorem zgc {w0 w : World} {g p : Nat} {lg : Bool} {L : List UInt8} {T : List Ck} (hT : Tb w0) (hp : p ≤ L.length) (hl : L.length ≤ 1000000000) (hd0 : qja (L.drop p) = true) (hM0 : Mg w0 w (.obj g (rC L p lg) :: T)) : Calls Tryz.prog 55 #[pA g 0] w fun e w' => e = .returned (bV true) ∧ Mg w0 w' (.obj g (rC L (p + 1) lg) :: T) := by
 have hd : decide ((L.drop p).take (ue ((L.drop p).length + 1) (L.drop p)) = [46]) = true := hd0
 have hpf := zci (of_decide_eq_true hd)
 have M : Mg w0 w (.obj g (rC L p lg) :: T) := hM0
 refine qw (l := [(0, pA g 0)]) Tryz.func55 rfl Tryz.ntmps55 rfl rfl ?_
 intro Q hret hnorm hP a A
 refine wsk fun K1 hK1 => wrl (sda A λa A↦?_)
 refine qa (hK1 _ _ (wsk fun K2 hK2 => wrl (sdm A λa A↦?_)))
 refine sct A (ef rfl rfl) (xj (p := p) (L := L) (T := (T)) (by omega) M) ?_
 rintro _ w4 ⟨rfl, hM3⟩
 replace M : Mg w0 w4 (.obj g (rC L p lg) :: T) := hM3
 refine ⟨_, rfl, ?_⟩
 intro a A
 refine gcl A M (ef rfl rfl) (qfd (l := L.drop p) (hT.below M.bel) (by rw [List.length_drop]; omega)) fun w6 hb5 M a A => ?_
 refine sdo (v := bV true) A (qb rfl rfl (fun w => (zl (a := (L.drop p).take (ue ((L.drop p).length + 1) (L.drop p))) (b := [46]) Tryz.underlying9 w).trans (by rw [hd] <;> rfl))) λa A↦?_
 iterate 2 refine sdm A λa A↦?_
 have htl9 : 1 ≤ (L.drop p).length := (List.isPrefixOf_iff_prefix.1 hpf).length_le
 rw [List.length_drop] at htl9
 refine sct A (ef rfl rfl) (xy (p := p) (L := L) (T := (T)) (by omega) (by omega) hpf M) ?_
 rintro _ w10 ⟨rfl, hM8⟩
 replace M : Mg w0 w10 (.obj g (rC L (p + 1) lg) :: T) := hM8
 refine ⟨_, rfl, ?_⟩
 intro a A
 refine sdk (v := bV true) A λa A↦?_
 refine sda A λa A↦?_
 refine qa (hK2 _ _ (wr1 hret A ?_))
 exact ⟨rfl, M⟩
theorem zgd {w0 w : World} {g p : Nat} {lg : Bool} {L : List UInt8} {T : List Ck} (hT : Tb w0) (hp : p ≤ L.length) (hl : L.length ≤ 1000000000) (hd0 : qja (L.drop p) = false) (hM0 : Mg w0 w (.obj g (rC L p lg) :: T)) : Calls Tryz.prog 55 #[pA g 0] w fun e w' => e = .returned (bV false) ∧ Mg w0 w' (.obj g (rC L p lg) :: T) := by
 have hd : decide ((L.drop p).take (ue ((L.drop p).length + 1) (L.drop p)) = [46]) = false := hd0
 
 have M : Mg w0 w (.obj g (rC L p lg) :: T) := hM0
 refine qw (l := [(0, pA g 0)]) Tryz.func55 rfl Tryz.ntmps55 rfl rfl ?_
 intro Q hret hnorm hP a A
 refine wsk fun K1 hK1 => wrl (sda A λa A↦?_)
 refine qa (hK1 _ _ (wsk fun K2 hK2 => wrl (sdm A λa A↦?_)))
 refine sct A (ef rfl rfl) (xj (p := p) (L := L) (T := (T)) (by omega) M) ?_
 rintro _ w4 ⟨rfl, hM3⟩
 replace M : Mg w0 w4 (.obj g (rC L p lg) :: T) := hM3
 refine ⟨_, rfl, ?_⟩
 intro a A
 refine gcl A M (ef rfl rfl) (qfd (l := L.drop p) (hT.below M.bel) (by rw [List.length_drop]; omega)) fun w6 hb5 M a A => ?_
 refine sdo (v := bV false) A (qb rfl rfl (fun w => (zl (a := (L.drop p).take (ue ((L.drop p).length + 1) (L.drop p))) (b := [46]) Tryz.underlying9 w).trans (by rw [hd] <;> rfl))) λa A↦?_
 refine sdm A λa A↦?_
 iterate 2 refine qf A rfl rfl rfl λa A↦?_
 refine sdk (v := bV false) A λa A↦?_
 refine sda A λa A↦?_
 refine qa (hK2 _ _ (wr1 hret A ?_))
 exact ⟨rfl, M⟩
theorem ji {P : Program} {Q : Exit → Act → World → Prop} {a : Act} {w : World} {c rest : Code} (l : Nat) (hf : findLabel c l = some rest) (h : c.wp P (Exit.jump l (fun a w => rest.wp P (Exit.noGoto Q) a w) Q) a w) : (Code.scope c).wp P Q a w :=
  wp_scope_jumps l _ (fun _ _ => 0) hf h fun a w hJ => wp_mono hJ fun e a w hq => by
    cases e with
    | goto l' => exact hq.elim
    | normal => exact hq
    | exit id => exact hq
    | ret => exact hq
    | panic ch => exact hq
    | outgrown => exact hq
end Go.Proofs.YtclkfideaameoaaGreatDoor.G
namespace Go.Proofs
open Go.Shelf
def Tryz.lays153_ren : Go.Shelf.Ren := ⟨fun | 153 => 51 | 152 => 71 | 226 => 72 | 227 => 73 | 228 => 74 | 137 => 105 | 119 => 67 | 224 => 106 | 225 => 107 | 217 => 133 | 266 => 152 | n => n, fun | 9 => 9 | 3 => 3 | 4 => 4 | 5 => 5 | 21 => 21 | 117 => 103 | 116 => 102 | 0 => 0 | 46 => 71 | 124 => 133 | n => n, fun | n => n⟩
theorem Tryz.lays153 : Go.Proofs.Lays.n153 Tryz.prog Tryz.lays153_ren := {
  mixed := by kernel_rfl
  f119 := Tryz.func67.trans (congrArg some (by kernel_rfl))
  f137 := Tryz.func105.trans (congrArg some (by kernel_rfl))
  f152 := Tryz.func71.trans (congrArg some (by kernel_rfl))
  f153 := Tryz.func51.trans (congrArg some (by kernel_rfl))
  f217 := Tryz.func133.trans (congrArg some (by kernel_rfl))
  f224 := Tryz.func106.trans (congrArg some (by kernel_rfl))
  f225 := Tryz.func107.trans (congrArg some (by kernel_rfl))
  f226 := Tryz.func72.trans (congrArg some (by kernel_rfl))
  f227 := Tryz.func73.trans (congrArg some (by kernel_rfl))
  f228 := Tryz.func74.trans (congrArg some (by kernel_rfl))
  f266 := Tryz.func152.trans (congrArg some (by kernel_rfl))
  t0 := Tryz.underlying0
  a0 := Tryz.isAgg0
  z0 := Tryz.sizeOf0
  v0 := Tryz.zeroValue0
  t3 := Tryz.underlying3
  a3 := Tryz.isAgg3
  z3 := Tryz.sizeOf3
  v3 := Tryz.zeroValue3
  t4 := Tryz.underlying4
  a4 := Tryz.isAgg4
  z4 := Tryz.sizeOf4
  v4 := Tryz.zeroValue4
  t5 := Tryz.underlying5
  a5 := Tryz.isAgg5
  z5 := Tryz.sizeOf5
  v5 := Tryz.zeroValue5
  t9 := Tryz.underlying9
  a9 := Tryz.isAgg9
  z9 := Tryz.sizeOf9
  v9 := Tryz.zeroValue9
  t21 := Tryz.underlying21
  a21 := Tryz.isAgg21
  z21 := Tryz.sizeOf21
  v21 := Tryz.zeroValue21
  t46 := Tryz.underlying71
  a46 := Tryz.isAgg71
  z46 := Tryz.sizeOf71
  v46 := Tryz.zeroValue71
  t116 := Tryz.underlying102
  a116 := Tryz.isAgg102
  z116 := Tryz.sizeOf102
  t117 := Tryz.underlying103
  a117 := Tryz.isAgg103
  z117 := Tryz.sizeOf103
  v117 := Tryz.zeroValue103
  t124 := Tryz.underlying133
  a124 := Tryz.isAgg133
  z124 := Tryz.sizeOf133
  v124 := Tryz.zeroValue133 }
end Go.Proofs
namespace Go.Proofs.YtclkfideaameoaaGreatDoor.C
open Go.RowKit Go.Shelf Go.Lib

def ln7 (r : Int) : Bool := decide (r = 10 ∨ r = 13 ∨ r = 133 ∨ r = 8232)
def lnN : Nat → List UInt8 → Nat
  | 0, _ => 0
  | f + 1, l => if l.isEmpty = true then 0 else if ln7 (((Lib.decodeL l).1 : Nat) : Int) = true then 0 else (Lib.decodeL l).2 + lnN f (l.drop (Lib.decodeL l).2)
def LnI (s : ByteArray) (pos : Nat) : Prop := ∃ f, s.size - pos ≤ f ∧ lnN s.size s.data.toList = pos + lnN f (s.data.toList.drop pos)
theorem LnI.zero (s : ByteArray) : LnI s 0 := ⟨s.size, by omega, by simp⟩
theorem qhg {s : ByteArray} {pos : Nat} (hp : pos < s.size) : (s.data.toList.drop pos).isEmpty = false := by
  rw [List.isEmpty_eq_false_iff]
  intro h
  have := List.drop_eq_nil_iff.1 h
  rw [← Lib.size_eq] at this
  omega
theorem LnI.hit {s : ByteArray} {pos : Nat} (h : LnI s pos) (hp : pos < s.size) (hc : ln7 (((Utf8.decode s pos).1 : Nat) : Int) = true) : lnN s.size s.data.toList = pos := by
  obtain ⟨f, hf, e⟩ := h
  obtain ⟨k, rfl⟩ : ∃ k, f = k + 1 := ⟨f - 1, by omega⟩
  rw [e, lnN, if_neg (by rw [qhg hp]; decide), Lib.decodeL_drop, if_pos hc, Nat.add_zero]
theorem LnI.step {s : ByteArray} {pos : Nat} (h : LnI s pos) (hp : pos < s.size) (hc : ln7 (((Utf8.decode s pos).1 : Nat) : Int) = false) : LnI s (pos + (Utf8.decode s pos).2) := by
  obtain ⟨f, hf, e⟩ := h
  obtain ⟨k, rfl⟩ : ∃ k, f = k + 1 := ⟨f - 1, by omega⟩
  have hw := Lib.decodeL_width (s.data.toList.drop pos)
  rw [Lib.decodeL_drop] at hw
  refine ⟨k, by omega, ?_⟩
  rw [e, lnN, if_neg (by rw [qhg hp]; decide), Lib.decodeL_drop, if_neg (by rw [hc]; decide), List.drop_drop]
  omega
theorem zrj (f : Nat) : lnN f [] = 0 := by cases f <;> rfl
theorem LnI.over {s : ByteArray} {pos : Nat} (h : LnI s pos) (hp : ¬ pos < s.size) (hq : pos ≤ s.size) : lnN s.size s.data.toList = s.size := by
  obtain ⟨f, hf, e⟩ := h
  rw [e, List.drop_of_length_le (by rw [← Lib.size_eq]; omega), zrj]
  omega
theorem zkj (s : ByteArray) (pos : Nat) (hp : pos < s.size) : OkR (((Utf8.decode s pos).1 : Nat) : Int) := by
  have := G.qig (s.data.toList.drop pos)
  rw [Lib.decodeL_drop] at this
  unfold OkR
  omega
section
variable {P : Program} {ρ : Ren}
set_option maxRecDepth 1000000 in
theorem zxa (L : Lays.n227 P ρ) (hv116 : ∀ w, (zeroValue (ρ.t 116)).run P w = .ok (.agg (Array.replicate 256 (.bool false))) w) (hi116 : (P.info? (ρ.t 116)).map (·.size) = some 256) (chars : ByteArray) (hl : chars.data.toList = [10, 13, 194, 133, 226, 128, 168]) (w : World) :
    Calls P (ρ.f 227) #[.string chars] w fun e w' => e = .returned (.tuple #[.agg (Lib.setCells [10, 13]), .bool false]) ∧ w' = w.alloc (.cells (Lib.setCells [10, 13]) (ρ.t 116)) := by
  have hz : chars.size = 7 := by rw [Lib.size_eq, hl]; rfl
  have HA : Aside (chars.data.toList = [10, 13, 194, 133, 226, 128, 168]) := hl
  clear hl
  have t3 := L.t3; have a3 := L.a3; have z3 := L.z3; have v3 := L.v3
  have t4 := L.t4; have a4 := L.a4; have z4 := L.z4; have v4 := L.v4
  have t5 := L.t5; have a5 := L.a5; have z5 := L.z5; have v5 := L.v5
  have t9 := L.t9; have a9 := L.a9; have z9 := L.z9; have v9 := L.v9
  have t116 := L.t116
  go_enter L.f227, Body.n227_ntmps ρ
  go_wp2
  rw [← Lib.setCells_nil]
  go_loopg [4] 2 (fun g s4 wx => ∃ i : Nat, i + g = 2 ∧ s4 = .int .i64 i ∧ wx = w.alloc (.cells (Lib.setCells (([10, 13] : List UInt8).take i)) (ρ.t 116)))
  case atStart => exact ⟨0, by omega, rfl, rfl⟩
  case round =>
    obtain ⟨i, hig, rfl, rfl⟩ := hrel
    have hi : i < chars.size := by omega
    have hiz : (i : Int) < (chars.size : Int) := by omega
    obtain ⟨x, hx⟩ : ∃ x : UInt8, chars[i]'hi = x := ⟨_, rfl⟩
    have hxl : chars.data.toList[i]? = some x := by rw [← hx]; exact Lib.data_getElem? chars i hi
    cases gk with
    | zero =>
      obtain rfl : i = 2 := by omega
      obtain rfl : x = 194 := by rw [HA.out] at hxl; exact (Option.some.inj hxl).symm
      clear hxl
      have hx128 : ((128 : Int) ≤ (((194 : UInt8).toNat : Nat) : Int)) := by decide
      rw [show ([10, 13] : List UInt8).take 2 = [10, 13] from rfl]
      have hld := run_loadVar_new (P := P) w (ρ.t 116) (Lib.setCells [10, 13]) 256 (ρ.t 4) L.t116 (by rw [Lib.setCells_size]; exact hi116)
      have hsz := Lib.setCells_size [10, 13]
      have hlc := run_loadCellsFrom_new (P := P) w (ρ.t 116) (Lib.setCells [10, 13]) 256 hsz
      have hsc := run_storeCells_new (P := P) w (ρ.t 116) (Lib.setCells [10, 13]) (Lib.setCells [10, 13]) (by rw [hsz]; exact hi116) rfl (Lib.setCells_one _)
      obtain ⟨A, hA⟩ : ∃ A, Lib.setCells [10, 13] = A := ⟨_, rfl⟩
      rw [hA] at hld hsz hlc hsc ⊢
      go_wp2
      simp only [L.a116, L.z116, Result.andThen, ↓reduceIte, hlc]
      rw [Oper.upon_value]
      go_wp2
      simp only [L.z116, Result.andThen, ↓reduceIte, hsc]
      rw [Oper.upon_skip]
      go_wp2
      (try simp only [Exit.inBlock, Exit.then])
      refine bodyPost_ret (v := .tuple #[.agg A, .bool false]) ?_ rfl ⟨by rw [hA], by rw [hA]⟩
      rw [results_cell_tmp rfl]
      simp [asAddr, Result.andThen, hld]
    | succ g =>
      have hx128 : ¬ ((128 : Int) ≤ (x.toNat : Int)) := by
        rw [HA.out] at hxl
        match i, hxl with
        | 0, h => obtain rfl := Option.some.inj h; decide
        | 1, h => obtain rfl := Option.some.inj h; decide
        | n + 2, h => omega
      have hx256 : (x.toNat : Int) < 256 := by omega
      have hcell := Lib.setCells_at (([10, 13] : List UInt8).take i) x
      have Hx : Aside (([10, 13] : List UInt8)[i]? = some x) := by
        rw [HA.out] at hxl
        match i, hxl with
        | 0, h => exact h
        | 1, h => exact h
        | n + 2, h => omega
      clear hxl
      go_wp2
      go_roundg g
      case measure => omega
      case rel => exact ⟨i + 1, by omega, by first | rfl | simp, by rw [List.take_add_one, Hx.out]; simp only [Option.toList]; rw [Lib.setCells_snoc]⟩
set_option maxRecDepth 1000000 in
theorem qrb (L : Lays.n153 P ρ) (hv116 : ∀ w, (zeroValue (ρ.t 116)).run P w = .ok (.agg (Array.replicate 256 (.bool false))) w) (hi116 : (P.info? (ρ.t 116)).map (·.size) = some 256) (s chars : ByteArray) (hl : chars.data.toList = [10, 13, 194, 133, 226, 128, 168]) (hir : ∀ (r : Int) (w : World), OkR r → Calls P (ρ.f 152) #[.string chars, .int .i32 r] w fun e w' => ∃ v : Int, e = .returned (.int .i64 v) ∧ decide (0 ≤ v) = ln7 r ∧ Below w.heap.size w w') (w : World) (h8 : s.size ≤ 8) (hs : s.size < 4294967281) :
    Calls P (ρ.f 153) #[.string s, .string chars] w fun e w' => (∃ v : Int, e = .returned (.int .i64 v) ∧ (v = ((lnN s.size s.data.toList : Nat) : Int) ∧ lnN s.size s.data.toList < s.size ∨ v = -1 ∧ lnN s.size s.data.toList = s.size)) ∧ Below w.heap.size w w' := by
  have hz : chars.size = 7 := by rw [Lib.size_eq, hl]; rfl
  have hemp : chars.toList.isEmpty = false := by rw [Lib.toList_data, hl]; rfl
  have hn1 : ((chars.size : Int) == 1) = false := beq_eq_false_iff_ne.2 (by omega)
  have h8z : decide ((8 : Int) < (s.size : Int)) = false := decide_eq_false (by omega)
  have HR : Aside (∀ (r : Int) (w : World), OkR r → Calls P (ρ.f 152) #[.string chars, .int .i32 r] w fun e w' => ∃ v : Int, e = .returned (.int .i64 v) ∧ decide (0 ≤ v) = ln7 r ∧ Below w.heap.size w w') := hir
  clear hir hl
  have t3 := L.t3; have a3 := L.a3; have z3 := L.z3; have v3 := L.v3
  have t4 := L.t4; have a4 := L.a4; have z4 := L.z4; have v4 := L.v4
  have t5 := L.t5; have a5 := L.a5; have z5 := L.z5; have v5 := L.v5
  have t9 := L.t9; have a9 := L.a9; have z9 := L.z9; have v9 := L.v9
  have t21 := L.t21; have a21 := L.a21; have z21 := L.z21; have v21 := L.v21
  have t116 := L.t116
  have e152 : ∀ args w, (callFunc (ρ.f 152) args).run P w = .ok (.enter (ρ.f 152) args) w := enters_of L.f152 (by kernel_rfl) rfl
  have e226 : ∀ args w, (callFunc (ρ.f 226) args).run P w = .ok (.enter (ρ.f 226) args) w := enters_of L.f226 (by kernel_rfl) rfl
  have e227 : ∀ args w, (callFunc (ρ.f 227) args).run P w = .ok (.enter (ρ.f 227) args) w := enters_of L.f227 (by kernel_rfl) rfl
  go_enter L.f153, Body.n153_ntmps ρ
  go_wp2_with (first
    | (go_at_fn (ρ.f 226); refine (Any.strings_shouldUseASCIISet { L with } _ _).mono ?_; rintro e w' ⟨rfl, hw⟩; rw [hw, h8z])
    | (go_at_fn (ρ.f 227); fail))
  go_loopw [9, 10] (fun _ _ wr => ∃ (pos : Nat), wr.heap[w.heap.size]? = some (.stringIter s pos) ∧ Below w.heap.size w wr ∧ LnI s pos ∧ pos ≤ s.size) (fun _ _ wr => s.size - wr.iterPos w.heap.size)
  case atStart =>
    refine ⟨0, ?_, ?_, LnI.zero s, Nat.zero_le _⟩
    · simpa using World.iter_heap w s 0
    · exact (Below.refl _ w).alloc (Nat.le_refl _) _
  case round =>
    obtain ⟨pos, hit, hbw, hno, hq⟩ := hrel
    have HN : Aside (LnI s pos) := hno
    clear hno
    have hsz : w.heap.size < wr.heap.size := (Array.getElem?_eq_some_iff.1 hit).1
    by_cases hp : pos < s.size
    · have hnx : ∀ ty, (Instr.next (.pointer (some ⟨w.heap.size, 0, none⟩)) true ty).run P wr = _ := fun ty => Lib.run_next_any_at wr w.heap.size s pos ty hit hp
      have hit2 := Lib.iterAt_heap wr w.heap.size s pos (pos + (Utf8.decode s pos).2) hit
      have hbw2 := Lib.below_iterAt hbw (k := w.heap.size) (by omega) s (pos + (Utf8.decode s pos).2)
      have HO : Aside (OkR (((Utf8.decode s pos).1 : Nat) : Int)) := zkj s pos hp
      have HH : Aside (ln7 (((Utf8.decode s pos).1 : Nat) : Int) = true → lnN s.size s.data.toList = pos) := fun h => HN.out.hit hp h
      have HS : Aside (ln7 (((Utf8.decode s pos).1 : Nat) : Int) = false → LnI s (pos + (Utf8.decode s pos).2)) := fun h => HN.out.step hp h
      have hle : pos + (Utf8.decode s pos).2 ≤ s.size := by
        have := Lib.decodeL_le (s.data.toList.drop pos) (by have := qhg hp; intro h; rw [h] at this; cases this)
        rw [Lib.decodeL_drop, List.length_drop, ← Lib.size_eq] at this
        omega
      have hwd := Lib.decodeL_width (s.data.toList.drop pos)
      rw [Lib.decodeL_drop] at hwd
      generalize Utf8.decode s pos = d at hnx hit2 hbw2 HO HH HS hle hwd
      obtain ⟨c, wd⟩ := d
      dsimp only at hnx hit2 hbw2 HO HH HS hle hwd
      cases hc : ln7 ((c : Nat) : Int)
      · go_wp2_with (go_at_fn (ρ.f 152); refine (HR.out _ _ HO.out).mono ?_; rintro e w' ⟨v, rfl, hv, hbv⟩; rw [hc] at hv; have hv0 : ¬ ((0 : Int) ≤ v) := of_decide_eq_false hv)
        go_roundw
        case rel => exact ⟨pos + wd, heap_below hit2 hbv, hbw2.trans (hbv.mono hbw2.size), HS.out hc, hle⟩
        case measure =>
          simp only [World.iterPos, heap_below hit2 hbv, hit]
          omega
      · go_wp2_with (go_at_fn (ρ.f 152); refine (HR.out _ _ HO.out).mono ?_; rintro e w' ⟨v, rfl, hv, hbv⟩; rw [hc] at hv; have hv0 : (0 : Int) ≤ v := of_decide_eq_true hv)
        go_ret
        exact ⟨⟨_, rfl, .inl ⟨by rw [HH.out hc], by rw [HH.out hc]; exact hp⟩⟩, hbw2.trans (hbv.mono hbw2.size)⟩
    · have hnx : ∀ ty, (Instr.next (.pointer (some ⟨w.heap.size, 0, none⟩)) true ty).run P wr = _ := fun ty => Lib.run_next_end_at wr w.heap.size s pos ty hit hp
      go_wp2
      go_ret
      exact ⟨⟨_, rfl, .inr ⟨rfl, HN.out.over hp hq⟩⟩, hbw⟩
set_option maxRecDepth 1000000 in
theorem qxf (L : Lays.n153 P ρ) (hv116 : ∀ w, (zeroValue (ρ.t 116)).run P w = .ok (.agg (Array.replicate 256 (.bool false))) w) (hi116 : (P.info? (ρ.t 116)).map (·.size) = some 256) (s chars : ByteArray) (hl : chars.data.toList = [10, 13, 194, 133, 226, 128, 168]) (hir : ∀ (r : Int) (w : World), OkR r → Calls P (ρ.f 152) #[.string chars, .int .i32 r] w fun e w' => ∃ v : Int, e = .returned (.int .i64 v) ∧ decide (0 ≤ v) = ln7 r ∧ Below w.heap.size w w') (w : World) (h8 : 8 < s.size) (hs : s.size < 4294967281) :
    Calls P (ρ.f 153) #[.string s, .string chars] w fun e w' => (∃ v : Int, e = .returned (.int .i64 v) ∧ (v = ((lnN s.size s.data.toList : Nat) : Int) ∧ lnN s.size s.data.toList < s.size ∨ v = -1 ∧ lnN s.size s.data.toList = s.size)) ∧ Below w.heap.size w w' := by
  have hM := zxa { L with } hv116 hi116 chars hl w
  have hsc : (storeCells ⟨w.heap.size + 1, 0, none⟩ (Lib.setCells [10, 13]).toList 0).run P ((w.alloc (.cells (Lib.setCells [10, 13]) (ρ.t 116))).alloc (.cells (Array.replicate 256 (.bool false)) (ρ.t 116))) = .ok () ((w.alloc (.cells (Lib.setCells [10, 13]) (ρ.t 116))).alloc (.cells (Lib.setCells [10, 13]) (ρ.t 116))) := by
    have := run_storeCells_new (P := P) (w.alloc (.cells (Lib.setCells [10, 13]) (ρ.t 116))) (ρ.t 116) (Array.replicate 256 (.bool false)) (Lib.setCells [10, 13]) (by rw [Lib.setCells_size]; exact hi116) (by rw [Lib.setCells_size, Array.size_replicate]) (Lib.setCells_one _)
    simpa using this
  obtain ⟨A, hA⟩ : ∃ A, Lib.setCells [10, 13] = A := ⟨_, rfl⟩
  have hsz : A.size = 256 := by rw [← hA]; exact Lib.setCells_size _
  rw [hA] at hM hsc
  clear hA
  have hz : chars.size = 7 := by rw [Lib.size_eq, hl]; rfl
  have hemp : chars.toList.isEmpty = false := by rw [Lib.toList_data, hl]; rfl
  have hn1 : ((chars.size : Int) == 1) = false := beq_eq_false_iff_ne.2 (by omega)
  have h8z : decide ((8 : Int) < (s.size : Int)) = true := decide_eq_true (by omega)
  have HR : Aside (∀ (r : Int) (w : World), OkR r → Calls P (ρ.f 152) #[.string chars, .int .i32 r] w fun e w' => ∃ v : Int, e = .returned (.int .i64 v) ∧ decide (0 ≤ v) = ln7 r ∧ Below w.heap.size w w') := hir
  clear hir hl
  have t3 := L.t3; have a3 := L.a3; have z3 := L.z3; have v3 := L.v3
  have t4 := L.t4; have a4 := L.a4; have z4 := L.z4; have v4 := L.v4
  have t5 := L.t5; have a5 := L.a5; have z5 := L.z5; have v5 := L.v5
  have t9 := L.t9; have a9 := L.a9; have z9 := L.z9; have v9 := L.v9
  have t21 := L.t21; have a21 := L.a21; have z21 := L.z21; have v21 := L.v21
  have t116 := L.t116
  have e152 : ∀ args w, (callFunc (ρ.f 152) args).run P w = .ok (.enter (ρ.f 152) args) w := enters_of L.f152 (by kernel_rfl) rfl
  have e226 : ∀ args w, (callFunc (ρ.f 226) args).run P w = .ok (.enter (ρ.f 226) args) w := enters_of L.f226 (by kernel_rfl) rfl
  have e227 : ∀ args w, (callFunc (ρ.f 227) args).run P w = .ok (.enter (ρ.f 227) args) w := enters_of L.f227 (by kernel_rfl) rfl
  go_enter L.f153, Body.n153_ntmps ρ
  go_wp2_with (first
    | (go_at_fn (ρ.f 226); refine (Any.strings_shouldUseASCIISet { L with } _ _).mono ?_; rintro e w' ⟨rfl, hw⟩; rw [hw, h8z])
    | (go_at_fn (ρ.f 227); refine hM.mono ?_; rintro e w' ⟨rfl, hw⟩; rw [hw]))
  simp only [L.z116, Result.andThen, ↓reduceIte, hsc]
  rw [Oper.upon_skip]
  go_wp2
  clear hM hsc
  go_loopw [9, 10] (fun _ _ wr => ∃ (pos : Nat), wr.heap[(w.heap.size + 1 + 1)]? = some (.stringIter s pos) ∧ Below w.heap.size w wr ∧ LnI s pos ∧ pos ≤ s.size) (fun _ _ wr => s.size - wr.iterPos (w.heap.size + 1 + 1))
  case atStart =>
    refine ⟨0, ?_, ?_, LnI.zero s, Nat.zero_le _⟩
    · rw [show w.heap.size + 1 + 1 = ((w.alloc (.cells A (ρ.t 116))).alloc (.cells A (ρ.t 116))).heap.size from by rw [World.alloc, World.alloc, Array.size_push, Array.size_push]]
      exact World.iter_heap _ s 0
    · exact (((Below.refl _ w).alloc (Nat.le_refl _) _).alloc (by rw [World.alloc, Array.size_push]; omega) _).alloc (by rw [World.alloc, World.alloc, Array.size_push, Array.size_push]; omega) _
  case round =>
    obtain ⟨pos, hit, hbw, hno, hq⟩ := hrel
    have HN : Aside (LnI s pos) := hno
    clear hno
    have hsz : (w.heap.size + 1 + 1) < wr.heap.size := (Array.getElem?_eq_some_iff.1 hit).1
    by_cases hp : pos < s.size
    · have hnx : ∀ ty, (Instr.next (.pointer (some ⟨(w.heap.size + 1 + 1), 0, none⟩)) true ty).run P wr = _ := fun ty => Lib.run_next_any_at wr (w.heap.size + 1 + 1) s pos ty hit hp
      have hit2 := Lib.iterAt_heap wr (w.heap.size + 1 + 1) s pos (pos + (Utf8.decode s pos).2) hit
      have hbw2 := Lib.below_iterAt hbw (k := (w.heap.size + 1 + 1)) (by omega) s (pos + (Utf8.decode s pos).2)
      have HO : Aside (OkR (((Utf8.decode s pos).1 : Nat) : Int)) := zkj s pos hp
      have HH : Aside (ln7 (((Utf8.decode s pos).1 : Nat) : Int) = true → lnN s.size s.data.toList = pos) := fun h => HN.out.hit hp h
      have HS : Aside (ln7 (((Utf8.decode s pos).1 : Nat) : Int) = false → LnI s (pos + (Utf8.decode s pos).2)) := fun h => HN.out.step hp h
      have hle : pos + (Utf8.decode s pos).2 ≤ s.size := by
        have := Lib.decodeL_le (s.data.toList.drop pos) (by have := qhg hp; intro h; rw [h] at this; cases this)
        rw [Lib.decodeL_drop, List.length_drop, ← Lib.size_eq] at this
        omega
      have hwd := Lib.decodeL_width (s.data.toList.drop pos)
      rw [Lib.decodeL_drop] at hwd
      generalize Utf8.decode s pos = d at hnx hit2 hbw2 HO HH HS hle hwd
      obtain ⟨c, wd⟩ := d
      dsimp only at hnx hit2 hbw2 HO HH HS hle hwd
      cases hc : ln7 ((c : Nat) : Int)
      · go_wp2_with (go_at_fn (ρ.f 152); refine (HR.out _ _ HO.out).mono ?_; rintro e w' ⟨v, rfl, hv, hbv⟩; rw [hc] at hv; have hv0 : ¬ ((0 : Int) ≤ v) := of_decide_eq_false hv)
        go_roundw
        case rel => exact ⟨pos + wd, heap_below hit2 hbv, hbw2.trans (hbv.mono hbw2.size), HS.out hc, hle⟩
        case measure =>
          simp only [World.iterPos, heap_below hit2 hbv, hit]
          omega
      · go_wp2_with (go_at_fn (ρ.f 152); refine (HR.out _ _ HO.out).mono ?_; rintro e w' ⟨v, rfl, hv, hbv⟩; rw [hc] at hv; have hv0 : (0 : Int) ≤ v := of_decide_eq_true hv)
        go_ret
        exact ⟨⟨_, rfl, .inl ⟨by rw [HH.out hc], by rw [HH.out hc]; exact hp⟩⟩, hbw2.trans (hbv.mono hbw2.size)⟩
    · have hnx : ∀ ty, (Instr.next (.pointer (some ⟨(w.heap.size + 1 + 1), 0, none⟩)) true ty).run P wr = _ := fun ty => Lib.run_next_end_at wr (w.heap.size + 1 + 1) s pos ty hit hp
      go_wp2
      go_ret
      exact ⟨⟨_, rfl, .inr ⟨rfl, HN.out.over hp hq⟩⟩, hbw⟩
end
def S7 : ByteArray := ⟨#[10, 13, 194, 133, 226, 128, 168]⟩
def At7 (pos : Nat) : Prop := pos = 0 ∨ pos = 1 ∨ pos = 2 ∨ pos = 4 ∨ pos = 7
theorem at7 (pos : Nat) (h : At7 pos) (hp : pos < S7.size) : (((Utf8.decode S7 pos).1 : Nat) : Int) ≠ 65533 ∧ At7 (pos + (Utf8.decode S7 pos).2) ∧ 1 ≤ (Utf8.decode S7 pos).2 := by
  rcases h with rfl | rfl | rfl | rfl | rfl
  · exact ⟨by decide +kernel, .inr (.inl (by decide +kernel)), by decide +kernel⟩
  · exact ⟨by decide +kernel, .inr (.inr (.inl (by decide +kernel))), by decide +kernel⟩
  · exact ⟨by decide +kernel, .inr (.inr (.inr (.inl (by decide +kernel)))), by decide +kernel⟩
  · exact ⟨by decide +kernel, .inr (.inr (.inr (.inr (by decide +kernel)))), by decide +kernel⟩
  · exact absurd hp (by decide)
set_option maxRecDepth 1000000 in
theorem irune_err7 (w : World) : Calls Tryz.prog 71 #[.string S7, .int .i32 65533] w fun e w' => e = .returned (.int .i64 (-1)) ∧ Below w.heap.size w w' := by
  have HA : Aside (∀ (pos : Nat), At7 pos → pos < S7.size → (((Utf8.decode S7 pos).1 : Nat) : Int) ≠ 65533 ∧ At7 (pos + (Utf8.decode S7 pos).2) ∧ 1 ≤ (Utf8.decode S7 pos).2) := at7
  generalize S7 = s at HA
  go_enter Tryz.func71, Tryz.ntmps71
  go_wp2
  go_loopw [] (fun wr => ∃ (pos : Nat), wr.heap[w.heap.size]? = some (.stringIter s pos) ∧ Below w.heap.size w wr ∧ At7 pos) (fun wr => s.size - wr.iterPos w.heap.size)
  case atStart =>
    refine ⟨0, ?_, (Below.refl _ w).alloc (Nat.le_refl _) _, .inl rfl⟩
    simpa using World.iter_heap w s 0
  case round =>
    obtain ⟨pos, hit, hbw, hat⟩ := hrel
    have hsz : w.heap.size < wr.heap.size := (Array.getElem?_eq_some_iff.1 hit).1
    by_cases hp : pos < s.size
    · have hnx : ∀ ty, (Instr.next (.pointer (some ⟨w.heap.size, 0, none⟩)) true ty).run Tryz.prog wr = _ := fun ty => Lib.run_next_any_at wr w.heap.size s pos ty hit hp
      obtain ⟨hd, ha2, hw1⟩ := HA.out pos hat hp
      have hit2 := Lib.iterAt_heap wr w.heap.size s pos (pos + (Utf8.decode s pos).2) hit
      have hbw2 := Lib.below_iterAt hbw (k := w.heap.size) (by omega) s (pos + (Utf8.decode s pos).2)
      generalize Utf8.decode s pos = d at hnx hit2 hbw2 hd ha2 hw1
      obtain ⟨c, wd⟩ := d
      dsimp only at hnx hit2 hbw2 hd ha2 hw1
      have hq : (((c : Nat) : Int) == 65533) = false := beq_eq_false_iff_ne.2 hd
      have HB : Aside (At7 (pos + wd)) := ha2
      clear hat ha2 hd
      go_wp2
      go_roundw
      case rel => exact ⟨pos + wd, hit2, hbw2, HB.out⟩
      case measure =>
        simp only [World.iterPos, hit2, hit]
        omega
    · have hnx : ∀ ty, (Instr.next (.pointer (some ⟨w.heap.size, 0, none⟩)) true ty).run Tryz.prog wr = _ := fun ty => Lib.run_next_end_at wr w.heap.size s pos ty hit hp
      clear hat
      go_wp2
      go_ret
      exact ⟨rfl, hbw⟩
theorem ix7 : ∀ k : Nat, k < 128 → decide (0 ≤ Lib.indexByte S7.data.toList (k : Int).toNat.toUInt8) = ln7 k := by decide +kernel
theorem iany7 (s : ByteArray) (hir : ∀ (r : Int) (w : World), OkR r → Calls Tryz.prog 71 #[.string S7, .int .i32 r] w fun e w' => ∃ v : Int, e = .returned (.int .i64 v) ∧ decide (0 ≤ v) = ln7 r ∧ Below w.heap.size w w') (w : World) (hs : s.size < 4294967281) :
    Calls Tryz.prog 51 #[.string s, .string S7] w fun e w' => (∃ v : Int, e = .returned (.int .i64 v) ∧ (v = ((lnN s.size s.data.toList : Nat) : Int) ∧ lnN s.size s.data.toList < s.size ∨ v = -1 ∧ lnN s.size s.data.toList = s.size)) ∧ Below w.heap.size w w' := by
  by_cases h8 : 8 < s.size
  · exact qxf Tryz.lays153 (fun w => by kernel_rfl) (by kernel_rfl) s S7 rfl hir w h8 hs
  · exact qrb Tryz.lays153 (fun w => by kernel_rfl) (by kernel_rfl) s S7 rfl hir w (by omega) hs
end Go.Proofs.YtclkfideaameoaaGreatDoor.C
namespace Go.Proofs.YtclkfideaameoaaGreatDoor.G
open Go.RowKit
set_option maxRecDepth 100000

abbrev s7 : List UInt8 := [10, 13, 194, 133, 226, 128, 168]
theorem zge : ∀ b : Fin 256, Lib.indexByte [194, 133, 226, 128, 168] (b.val.toUInt8) = (if b.val = 194 then 0 else if b.val = 133 then 1 else if b.val = 226 then 2 else if b.val = 128 then 3 else if b.val = 168 then 4 else -1 : Int) := by decide +kernel
theorem zcj (b : UInt8) : Lib.indexByte [194, 133, 226, 128, 168] b = (if b.toNat = 194 then 0 else if b.toNat = 133 then 1 else if b.toNat = 226 then 2 else if b.toNat = 128 then 3 else if b.toNat = 168 then 4 else -1 : Int) := by
 have := zge ⟨b.toNat, b.toNat_lt⟩
 rwa [show (⟨b.toNat, b.toNat_lt⟩ : Fin 256).val.toUInt8 = b from UInt8.ofNat_toNat] at this
theorem zgf : ∀ b : Fin 256, Lib.indexByte [133, 226, 128, 168] (b.val.toUInt8) = (if b.val = 133 then 0 else if b.val = 226 then 1 else if b.val = 128 then 2 else if b.val = 168 then 3 else -1 : Int) := by decide +kernel
theorem zda (b : UInt8) : Lib.indexByte [133, 226, 128, 168] b = (if b.toNat = 133 then 0 else if b.toNat = 226 then 1 else if b.toNat = 128 then 2 else if b.toNat = 168 then 3 else -1 : Int) := by
 have := zgf ⟨b.toNat, b.toNat_lt⟩
 rwa [show (⟨b.toNat, b.toNat_lt⟩ : Fin 256).val.toUInt8 = b from UInt8.ofNat_toNat] at this
theorem zgg : ∀ b : Fin 256, Lib.indexByte [226, 128, 168] (b.val.toUInt8) = (if b.val = 226 then 0 else if b.val = 128 then 1 else if b.val = 168 then 2 else -1 : Int) := by decide +kernel
theorem zla (b : UInt8) : Lib.indexByte [226, 128, 168] b = (if b.toNat = 226 then 0 else if b.toNat = 128 then 1 else if b.toNat = 168 then 2 else -1 : Int) := by
 have := zgg ⟨b.toNat, b.toNat_lt⟩
 rwa [show (⟨b.toNat, b.toNat_lt⟩ : Fin 256).val.toUInt8 = b from UInt8.ofNat_toNat] at this
theorem zgh : ∀ b : Fin 256, Lib.indexByte [128, 168] (b.val.toUInt8) = (if b.val = 128 then 0 else if b.val = 168 then 1 else -1 : Int) := by decide +kernel
theorem qrc (b : UInt8) : Lib.indexByte [128, 168] b = (if b.toNat = 128 then 0 else if b.toNat = 168 then 1 else -1 : Int) := by
 have := zgh ⟨b.toNat, b.toNat_lt⟩
 rwa [show (⟨b.toNat, b.toNat_lt⟩ : Fin 256).val.toUInt8 = b from UInt8.ofNat_toNat] at this
theorem zgi : ∀ b : Fin 256, Lib.indexByte [] (b.val.toUInt8) = (-1 : Int) := by decide +kernel
theorem zdb (b : UInt8) : Lib.indexByte [] b = (-1 : Int) := by
 have := zgi ⟨b.toNat, b.toNat_lt⟩
 rwa [show (⟨b.toNat, b.toNat_lt⟩ : Fin 256).val.toUInt8 = b from UInt8.ofNat_toNat] at this
open C (ln7)
theorem vv {w : World} {l : List UInt8} {b : UInt8} {v : Int} (h : Lib.indexByte l b = v) : Calls Tryz.prog 105 #[.string (tx l), .int .u8 ((b.toNat : Nat) : Int)] w fun e w' => e = .returned (iV v) ∧ Below w.heap.size w w' :=
 (Tryz.strings_IndexByte (tx l) ((b.toNat : Nat) : Int) w).mono fun e w' h1 => ⟨by rw [h1.1, xi, Int.toNat_natCast, show b.toNat.toUInt8 = b from UInt8.ofNat_toNat, h], by rw [h1.2]; exact Below.refl _ _⟩
theorem zlb {w : World} {r : Int} (h : Lib.validRune r = true) : Calls Tryz.prog 67 #[.int .i32 r] w fun e w' => e = .returned (bV true) ∧ Below w.heap.size w w' :=
 (Tryz.utf8_ValidRune r w).mono fun e w' h1 => ⟨by rw [h1.1, h], by rw [h1.2]; exact Below.refl _ _⟩
theorem qxg {r : Int} (hv : Lib.validRune r = true) {l : List UInt8} (h : Lib.encodeRune r = l) : Utf8.encode r = tx l := by
 have := encode_valid r (by obtain h | h := of_decide_eq_true hv <;> exact ⟨by omega, by omega, by omega⟩)
 rw [h] at this
 rw [← this, zvj]
theorem kh {x : Int} (h0 : 0 ≤ x) (h1 : x ≤ 255) : ((x.toNat.toUInt8.toNat : Nat) : Int) = x := by
 rw [show x.toNat.toUInt8.toNat = x.toNat from by simp; omega]
 omega
theorem zlc {w : World} : Calls Tryz.prog 106 #[iV 4] w fun e w' => e = .returned (iV 2) ∧ Below w.heap.size w w' := by
 have M : Mg w w ([]) := Mg.start w
 refine qw (l := [(0, iV 4)]) Tryz.func106 rfl Tryz.ntmps106 rfl rfl ?_
 intro Q hret hnorm hP a A
 refine wsk fun K1 hK1 => wrl (sda A λa A↦?_)
 refine qa (hK1 _ _ (wsk fun K2 hK2 => wrl (sdm A λa A↦?_)))
 refine sdo (v := iV 20) A (qb rfl rfl (ar_add rfl)) λa A↦?_
 refine sdo (v := iV 2) A (qb rfl rfl (ar_quo (by decide) (by decide))) λa A↦?_
 refine sda A λa A↦?_
 refine qa (hK2 _ _ (wr1 hret A ?_))
 exact ⟨rfl, M.bel⟩
theorem zdc {w : World} : Calls Tryz.prog 106 #[iV 6] w fun e w' => e = .returned (iV 2) ∧ Below w.heap.size w w' := by
 have M : Mg w w ([]) := Mg.start w
 refine qw (l := [(0, iV 6)]) Tryz.func106 rfl Tryz.ntmps106 rfl rfl ?_
 intro Q hret hnorm hP a A
 refine wsk fun K1 hK1 => wrl (sda A λa A↦?_)
 refine qa (hK1 _ _ (wsk fun K2 hK2 => wrl (sdm A λa A↦?_)))
 refine sdo (v := iV 22) A (qb rfl rfl (ar_add rfl)) λa A↦?_
 refine sdo (v := iV 2) A (qb rfl rfl (ar_quo (by decide) (by decide))) λa A↦?_
 refine sda A λa A↦?_
 refine qa (hK2 _ _ (wr1 hret A ?_))
 exact ⟨rfl, M.bel⟩
theorem qjb {w : World} : Calls Tryz.prog 106 #[iV 7] w fun e w' => e = .returned (iV 2) ∧ Below w.heap.size w w' := by
 have M : Mg w w ([]) := Mg.start w
 refine qw (l := [(0, iV 7)]) Tryz.func106 rfl Tryz.ntmps106 rfl rfl ?_
 intro Q hret hnorm hP a A
 refine wsk fun K1 hK1 => wrl (sda A λa A↦?_)
 refine qa (hK1 _ _ (wsk fun K2 hK2 => wrl (sdm A λa A↦?_)))
 refine sdo (v := iV 23) A (qb rfl rfl (ar_add rfl)) λa A↦?_
 refine sdo (v := iV 2) A (qb rfl rfl (ar_quo (by decide) (by decide))) λa A↦?_
 refine sda A λa A↦?_
 refine qa (hK2 _ _ (wr1 hret A ?_))
 exact ⟨rfl, M.bel⟩
theorem jae {w : World} {r : Int} {b0 b1 : UInt8} (h0 : 128 ≤ r) (h1 : r ≤ 2047) (hne : r ≠ 65533) (hv : Lib.validRune r = true) (henc : Utf8.encode r = tx [b0, b1]) (e0 : ((b0.toNat : Nat) : Int) = 192 + r / 64) (e1 : ((b1.toNat : Nat) : Int) = 128 + r % 64) : Calls Tryz.prog 71 #[.string (tx s7), .int .i32 r] w fun e w' => ∃ v : Int, e = .returned (iV v) ∧ decide (0 ≤ v) = ln7 r ∧ Below w.heap.size w w' := by
 have g0 : 194 ≤ ((b0.toNat : Nat) : Int) ∧ ((b0.toNat : Nat) : Int) ≤ 223 := by omega
 have g1 : 128 ≤ ((b1.toNat : Nat) : Int) ∧ ((b1.toNat : Nat) : Int) ≤ 191 := by omega
 have M : Mg w w ([]) := Mg.start w
 refine qw (l := [(0, .string ((tx (s7)))), (1, .int .i32 r)]) Tryz.func71 rfl Tryz.ntmps71 rfl rfl ?_
 intro Q hret hnorm hP a A
 refine wsk fun K1 hK1 => wrl (sda A λa A↦?_)
 refine qa (hK1 _ _ (wp_block (wsk fun K2 hK2 => wrl (sdm A λa A↦?_))))
 refine sdo (v := bV true) A (qb rfl rfl (fun w => (jl w).trans (by rw [show (decide (0 ≤ r)) = true from (decide_eq_true (by omega))]))) λa A↦?_
 iterate 2 refine sdm A λa A↦?_
 refine sdo (v := bV false) A (qb rfl rfl (fun w => (jk w).trans (by rw [show (decide (r < 128)) = false from (decide_eq_false (by omega))]))) λa A↦?_
 refine sdk (v := bV false) A λa A↦?_
 refine sda A λa A↦?_
 refine qa (hK2 _ _ (cf A ?_))
 refine wsk fun K3 hK3 => wrl (sdm A λa A↦?_)
 refine sdo (v := bV false) A (qb rfl rfl (fun w => (qj w).trans (by rw [show ((r == 65533)) = false from (beq_eq_false_iff_ne.2 (by omega))]))) λa A↦?_
 refine sda A λa A↦?_
 refine qa (hK3 _ _ (cf A ?_))
 refine wsk fun K4 hK4 => wrl (sdm A λa A↦?_)
 refine gcl A M (ef rfl rfl) (zlb hv) fun w6 hb5 M a A => ?_
 refine sdo (v := bV false) A (zi rfl zr) λa A↦?_
 refine sda A λa A↦?_
 refine qa (hK4 _ _ (cf A ?_))
 refine ji 1 rfl ?_
 refine wsk fun K7 hK7 => wrl (sdm A λa A↦?_)
 refine sdo (v := .string ((tx ([b0, b1])))) A (zy rfl (fun w => (run_convert_int_string w _ _ .i32 r (by kernel_rfl) Tryz.underlying9).trans (by rw [henc]))) λa A↦?_
 refine sda A λa A↦?_
 refine qa (hK7 _ _ (wsk fun K8 hK8 => wrl (sdm A λa A↦?_)))
 refine sdo (v := iV 2) A (qy (s := [b0, b1]) Tryz.underlying9 rfl) λa A↦?_
 refine sdo (v := iV 1) A (qb rfl rfl (ar_sub rfl)) λa A↦?_
 refine sda A λa A↦?_
 refine qa (hK8 _ _ (wsk fun K9 hK9 => wrl (sdm A λa A↦?_)))
 refine sda A λa A↦?_
 refine qa (hK9 _ _ (wsk fun K10 hK10 => wrl (sda A λa A↦?_)))
 refine qa (hK10 _ _ (wsk fun K11 hK11 => wp_block (wp_loop_rounds 9 ?_)))
 refine zh ?_
 intro K12 hK12
 refine wsk fun K13 hK13 => wsk fun K14 hK14 => wrl ?_
 iterate 2 refine sdm A λa A↦?_
 refine sdo (v := iV 7) A (qy (s := s7) Tryz.underlying9 rfl) λa A↦?_
 refine sdo (v := bV true) A dbK λa A↦?_
 refine qa (hK14 _ _ (ct A ?_))
 refine wp_skip (hK13 _ _ (wp_block (ji 0 rfl ?_)))
 refine wsk fun K15 hK15 => wsk fun K16 hK16 => zj (S := fun w1 => Mg w w1 ([])) (by kernel_rfl) ?_
 replace M := M.drew
 refine amv A 0 rfl hP (M.sub ns) λa A↦?_
 refine amv A 1 rfl hP (M.sub ns) λa A↦?_
 refine atk (v := .int .u8 13) A 2 rfl hP (M.sub ns) (λ_ M↦qx (s := s7) (i := 1) (b := 13) Tryz.underlying9 rfl rfl rfl rfl) λa A↦?_
 refine amv A 3 rfl hP (M.sub ns) λa A↦?_
 refine amv A 4 rfl hP (M.sub ns) λa A↦?_
 refine atk (v := .int .u8 (((b1.toNat : Nat) : Int))) A 5 rfl hP (M.sub ns) (λ_ M↦qx (s := [b0, b1]) (i := 1) (b := b1) Tryz.underlying9 rfl rfl rfl rfl) λa A↦?_
 refine atk (v := bV true) A 6 rfl hP (M.sub ns) (λ_ M↦qb rfl rfl (fun w => (za w).trans (by rw [show ((13 != ((b1.toNat : Nat) : Int))) = true from (bne_iff_ne.2 (by omega))]))) λa A↦?_
 refine qr (by kernel_rfl) ?_
 refine hK16 _ _ (ct A ?_)
 refine wsk fun K17 hK17 => zj (S := fun w1 => Mg w w1 ([])) (by kernel_rfl) ?_
 replace M := M.drew
 refine amv A 0 rfl hP (M.sub ns) λa A↦?_
 refine amv A 1 rfl hP (M.sub ns) λa A↦?_
 refine atk (v := iV 2) A 2 rfl hP (M.sub ns) (λ_ M↦qb rfl rfl (ar_add rfl)) λa A↦?_
 refine atk (v := .string ((tx ([194, 133, 226, 128, 168])))) A 3 rfl hP (M.sub ns) (λ_ M↦ja (s := s7) (p := 2) Tryz.underlying9 rfl rfl rfl (by decide)) λa A↦?_
 refine amv A 4 rfl hP (M.sub ns) λa A↦?_
 refine amv A 5 rfl hP (M.sub ns) λa A↦?_
 refine atk (v := .int .u8 (((b1.toNat : Nat) : Int))) A 6 rfl hP (M.sub ns) (λ_ M↦qx (s := [b0, b1]) (i := 1) (b := b1) Tryz.underlying9 rfl rfl rfl rfl) λa A↦?_
 rcases tf (((((b1.toNat : Nat) : Int)) == 133)) with hb19 | hb19
 ·
  have hb19' := eq_of_beq hb19
  refine zg (by kernel_rfl) (zt A 7 rfl rfl rfl rfl (ef rfl rfl) (vv (l := [194, 133, 226, 128, 168]) (b := b1) (by rw [zcj, if_neg (by omega), if_pos (by omega)])) ?_)
  rintro _ w21 ⟨rfl, hb20⟩
  replace M := M.call hb20
  refine ⟨_, rfl, (M.sub ns), ?_⟩
  intro a A
  refine atk A 8 rfl hP (M.sub ns) (λ_ M↦qs rfl) λa A↦?_
  refine qr (by kernel_rfl) ?_
  refine hK17 _ _ (wsk fun K22 hK22 => wsk fun K23 hK23 => wrl (sdm A λa A↦?_))
  refine sdo (v := bV false) A dbK λa A↦?_
  refine qa (hK23 _ _ (cf A ?_))
  refine wp_skip (hK22 _ _ (wrl ?_))
  iterate 2 refine sdm A λa A↦?_
  refine sdo (v := iV 2) A (qb rfl rfl (ar_add rfl)) λa A↦?_
  refine sdo (v := iV 3) A (qb rfl rfl (ar_add rfl)) λa A↦?_
  refine sda A λa A↦?_
  refine qa (hK15 _ _ (wsk fun K24 hK24 => wsk fun K25 hK25 => wrl (sda A λa A↦?_)))
  refine qa (hK25 _ _ (wp_block (wp_loop_rounds 9 ?_)))
  refine zh ?_
  intro K26 hK26
  refine wsk fun K27 hK27 => wsk fun K28 hK28 => wrl ?_
  iterate 2 refine sdm A λa A↦?_
  refine sdo (v := iV 2) A (qy (s := [b0, b1]) Tryz.underlying9 rfl) λa A↦?_
  refine sdo (v := bV true) A dbK λa A↦?_
  refine qa (hK28 _ _ (ct A ?_))
  refine wp_skip (hK27 _ _ (wsk fun K29 hK29 => wp_block (wsk fun K30 hK30 => zj (S := fun w1 => Mg w w1 ([])) (by kernel_rfl) ?_)))
  replace M := M.drew
  refine amv A 0 rfl hP (M.sub ns) λa A↦?_
  refine amv A 1 rfl hP (M.sub ns) λa A↦?_
  refine amv A 2 rfl hP (M.sub ns) λa A↦?_
  refine atk (v := iV 2) A 3 rfl hP (M.sub ns) (λ_ M↦qb rfl rfl (ar_sub rfl)) λa A↦?_
  refine atk (v := .int .u8 194) A 4 rfl hP (M.sub ns) (λ_ M↦qx (s := s7) (i := 2) (b := 194) Tryz.underlying9 rfl rfl rfl rfl) λa A↦?_
  refine amv A 5 rfl hP (M.sub ns) λa A↦?_
  refine amv A 6 rfl hP (M.sub ns) λa A↦?_
  refine amv A 7 rfl hP (M.sub ns) λa A↦?_
  refine atk (v := iV 0) A 8 rfl hP (M.sub ns) (λ_ M↦qb rfl rfl (ar_sub rfl)) λa A↦?_
  refine atk (v := .int .u8 (((b0.toNat : Nat) : Int))) A 9 rfl hP (M.sub ns) (λ_ M↦qx (s := [b0, b1]) (i := 0) (b := b0) Tryz.underlying9 rfl rfl rfl rfl) λa A↦?_
  rcases tf ((194 != ((b0.toNat : Nat) : Int))) with hb31 | hb31
  ·
   have hb31' := bne_iff_ne.1 hb31
   refine atk (v := bV true) A 10 rfl hP (M.sub ns) (λ_ M↦qb rfl rfl (fun w => (za w).trans (by rw [hb31]))) λa A↦?_
   refine qr (by kernel_rfl) ?_
   refine hK30 _ _ (ct A ?_)
   refine wp_goto (And.intro rfl ?_)
   refine wsk fun K32 hK32 => wp_skip (hK32 _ _ (wsk fun K33 hK33 => wrl (sdm A λa A↦?_)))
   refine sdo (v := iV 1) A (qb rfl rfl (ar_add rfl)) λa A↦?_
   refine sda A λa A↦?_
   refine qa (hK33 _ _ (wsk fun K34 hK34 => wrl (sdm A λa A↦?_)))
   refine sdo (v := iV 4) A (qb rfl rfl (ar_add rfl)) λa A↦?_
   refine sda A λa A↦?_
   refine qa (hK34 _ _ (wsk fun K35 hK35 => wrl ?_))
   iterate 3 refine sdm A λa A↦?_
   refine gcl A M (ef rfl rfl) (zlc) fun w37 hb36 M a A => ?_
   refine sdo (v := bV false) A dbK λa A↦?_
   refine sdk (v := bV false) A λa A↦?_
   refine sdm A λa A↦?_
   iterate 4 refine qf A rfl rfl rfl λa A↦?_
   refine sdk (v := bV false) A λa A↦?_
   iterate 2 refine sdm A λa A↦?_
   iterate 5 refine qf A rfl rfl rfl λa A↦?_
   refine sdk (v := bV false) A λa A↦?_
   refine sdm A λa A↦?_
   iterate 4 refine qf A rfl rfl rfl λa A↦?_
   iterate 2 refine sdk (v := bV false) A λa A↦?_
   refine qa (hK35 _ _ (cf A ?_))
   refine wp_skip (hK12 _ _ (zh ?_))
   intro K38 hK38
   refine wsk fun K39 hK39 => wsk fun K40 hK40 => wrl ?_
   iterate 2 refine sdm A λa A↦?_
   refine sdo (v := iV 7) A (qy (s := s7) Tryz.underlying9 rfl) λa A↦?_
   refine sdo (v := bV true) A dbK λa A↦?_
   refine qa (hK40 _ _ (ct A ?_))
   refine wp_skip (hK39 _ _ (wp_block (ji 0 rfl ?_)))
   refine wsk fun K41 hK41 => wsk fun K42 hK42 => zj (S := fun w1 => Mg w w1 ([])) (by kernel_rfl) ?_
   replace M := M.drew
   refine amv A 0 rfl hP (M.sub ns) λa A↦?_
   refine amv A 1 rfl hP (M.sub ns) λa A↦?_
   refine atk (v := .int .u8 226) A 2 rfl hP (M.sub ns) (λ_ M↦qx (s := s7) (i := 4) (b := 226) Tryz.underlying9 rfl rfl rfl rfl) λa A↦?_
   refine amv A 3 rfl hP (M.sub ns) λa A↦?_
   refine amv A 4 rfl hP (M.sub ns) λa A↦?_
   refine atk (v := .int .u8 (((b1.toNat : Nat) : Int))) A 5 rfl hP (M.sub ns) (λ_ M↦qx (s := [b0, b1]) (i := 1) (b := b1) Tryz.underlying9 rfl rfl rfl rfl) λa A↦?_
   refine atk (v := bV true) A 6 rfl hP (M.sub ns) (λ_ M↦qb rfl rfl (fun w => (za w).trans (by rw [show ((226 != ((b1.toNat : Nat) : Int))) = true from (bne_iff_ne.2 (by omega))]))) λa A↦?_
   refine qr (by kernel_rfl) ?_
   refine hK42 _ _ (ct A ?_)
   refine wsk fun K43 hK43 => zj (S := fun w1 => Mg w w1 ([])) (by kernel_rfl) ?_
   replace M := M.drew
   refine amv A 0 rfl hP (M.sub ns) λa A↦?_
   refine amv A 1 rfl hP (M.sub ns) λa A↦?_
   refine atk (v := iV 5) A 2 rfl hP (M.sub ns) (λ_ M↦qb rfl rfl (ar_add rfl)) λa A↦?_
   refine atk (v := .string ((tx ([128, 168])))) A 3 rfl hP (M.sub ns) (λ_ M↦ja (s := s7) (p := 5) Tryz.underlying9 rfl rfl rfl (by decide)) λa A↦?_
   refine amv A 4 rfl hP (M.sub ns) λa A↦?_
   refine amv A 5 rfl hP (M.sub ns) λa A↦?_
   refine atk (v := .int .u8 (((b1.toNat : Nat) : Int))) A 6 rfl hP (M.sub ns) (λ_ M↦qx (s := [b0, b1]) (i := 1) (b := b1) Tryz.underlying9 rfl rfl rfl rfl) λa A↦?_
   refine zg (by kernel_rfl) (zt A 7 rfl rfl rfl rfl (ef rfl rfl) (vv (l := [128, 168]) (b := b1) (by rw [qrc, if_neg (by omega), if_neg (by omega)])) ?_)
   rintro _ w45 ⟨rfl, hb44⟩
   replace M := M.call hb44
   refine ⟨_, rfl, (M.sub ns), ?_⟩
   intro a A
   refine atk A 8 rfl hP (M.sub ns) (λ_ M↦qs rfl) λa A↦?_
   refine qr (by kernel_rfl) ?_
   refine hK43 _ _ (wsk fun K46 hK46 => wsk fun K47 hK47 => wrl (sdm A λa A↦?_))
   refine sdo (v := bV true) A dbK λa A↦?_
   refine qa (hK47 _ _ (ct A ?_))
   refine wsk fun K48 hK48 => wrl (sda A λa A↦?_)
   refine qa (hK48 _ _ (wr1 hret A ?_))
   exact ⟨_, rfl, by rw [show ln7 r = false from decide_eq_false (by omega)]; rfl, M.bel⟩
  ·
   have hb31' := bne_eq_false_iff_eq.1 hb31
   refine atk (v := bV false) A 10 rfl hP (M.sub ns) (λ_ M↦qb rfl rfl (fun w => (za w).trans (by rw [hb31]))) λa A↦?_
   refine qr (by kernel_rfl) ?_
   refine hK30 _ _ (cf A ?_)
   refine wp_skip (hK29 _ _ (wrl (sdm A λa A↦?_)))
   refine sdo (v := iV 2) A (qb rfl rfl (ar_add rfl)) λa A↦?_
   refine sda A λa A↦?_
   refine qa (hK26 _ _ (zh ?_))
   intro K49 hK49
   refine wsk fun K50 hK50 => wsk fun K51 hK51 => wrl ?_
   iterate 2 refine sdm A λa A↦?_
   refine sdo (v := iV 2) A (qy (s := [b0, b1]) Tryz.underlying9 rfl) λa A↦?_
   refine sdo (v := bV false) A dbK λa A↦?_
   refine qa (hK51 _ _ (cf A ?_))
   refine wp_exit (hK24 _ _ (wsk fun K52 hK52 => wsk fun K53 hK53 => wrl ?_))
   iterate 2 refine sdm A λa A↦?_
   refine sdo (v := iV 2) A (qb rfl rfl (ar_sub rfl)) λa A↦?_
   refine sda A λa A↦?_
   refine qa (hK53 _ _ (wr1 hret A ?_))
   exact ⟨_, rfl, by rw [show ln7 r = true from decide_eq_true (by omega)]; rfl, M.bel⟩
 ·
  have hb19' := ne_of_beq_false hb19
  rcases tf (((((b1.toNat : Nat) : Int)) == 128)) with hb55 | hb55
  ·
   have hb55' := eq_of_beq hb55
   refine zg (by kernel_rfl) (zt A 7 rfl rfl rfl rfl (ef rfl rfl) (vv (l := [194, 133, 226, 128, 168]) (b := b1) (by rw [zcj, if_neg (by omega), if_neg (by omega), if_neg (by omega), if_pos (by omega)])) ?_)
   rintro _ w57 ⟨rfl, hb56⟩
   replace M := M.call hb56
   refine ⟨_, rfl, (M.sub ns), ?_⟩
   intro a A
   refine atk A 8 rfl hP (M.sub ns) (λ_ M↦qs rfl) λa A↦?_
   refine qr (by kernel_rfl) ?_
   refine hK17 _ _ (wsk fun K58 hK58 => wsk fun K59 hK59 => wrl (sdm A λa A↦?_))
   refine sdo (v := bV false) A dbK λa A↦?_
   refine qa (hK59 _ _ (cf A ?_))
   refine wp_skip (hK58 _ _ (wrl ?_))
   iterate 2 refine sdm A λa A↦?_
   refine sdo (v := iV 4) A (qb rfl rfl (ar_add rfl)) λa A↦?_
   refine sdo (v := iV 5) A (qb rfl rfl (ar_add rfl)) λa A↦?_
   refine sda A λa A↦?_
   refine qa (hK15 _ _ (wsk fun K60 hK60 => wsk fun K61 hK61 => wrl (sda A λa A↦?_)))
   refine qa (hK61 _ _ (wp_block (wp_loop_rounds 9 ?_)))
   refine zh ?_
   intro K62 hK62
   refine wsk fun K63 hK63 => wsk fun K64 hK64 => wrl ?_
   iterate 2 refine sdm A λa A↦?_
   refine sdo (v := iV 2) A (qy (s := [b0, b1]) Tryz.underlying9 rfl) λa A↦?_
   refine sdo (v := bV true) A dbK λa A↦?_
   refine qa (hK64 _ _ (ct A ?_))
   refine wp_skip (hK63 _ _ (wsk fun K65 hK65 => wp_block (wsk fun K66 hK66 => zj (S := fun w1 => Mg w w1 ([])) (by kernel_rfl) ?_)))
   replace M := M.drew
   refine amv A 0 rfl hP (M.sub ns) λa A↦?_
   refine amv A 1 rfl hP (M.sub ns) λa A↦?_
   refine amv A 2 rfl hP (M.sub ns) λa A↦?_
   refine atk (v := iV 4) A 3 rfl hP (M.sub ns) (λ_ M↦qb rfl rfl (ar_sub rfl)) λa A↦?_
   refine atk (v := .int .u8 226) A 4 rfl hP (M.sub ns) (λ_ M↦qx (s := s7) (i := 4) (b := 226) Tryz.underlying9 rfl rfl rfl rfl) λa A↦?_
   refine amv A 5 rfl hP (M.sub ns) λa A↦?_
   refine amv A 6 rfl hP (M.sub ns) λa A↦?_
   refine amv A 7 rfl hP (M.sub ns) λa A↦?_
   refine atk (v := iV 0) A 8 rfl hP (M.sub ns) (λ_ M↦qb rfl rfl (ar_sub rfl)) λa A↦?_
   refine atk (v := .int .u8 (((b0.toNat : Nat) : Int))) A 9 rfl hP (M.sub ns) (λ_ M↦qx (s := [b0, b1]) (i := 0) (b := b0) Tryz.underlying9 rfl rfl rfl rfl) λa A↦?_
   rcases tf ((226 != ((b0.toNat : Nat) : Int))) with hb67 | hb67
   ·
    have hb67' := bne_iff_ne.1 hb67
    refine atk (v := bV true) A 10 rfl hP (M.sub ns) (λ_ M↦qb rfl rfl (fun w => (za w).trans (by rw [hb67]))) λa A↦?_
    refine qr (by kernel_rfl) ?_
    refine hK66 _ _ (ct A ?_)
    refine wp_goto (And.intro rfl ?_)
    refine wsk fun K68 hK68 => wp_skip (hK68 _ _ (wsk fun K69 hK69 => wrl (sdm A λa A↦?_)))
    refine sdo (v := iV 1) A (qb rfl rfl (ar_add rfl)) λa A↦?_
    refine sda A λa A↦?_
    refine qa (hK69 _ _ (wsk fun K70 hK70 => wrl (sdm A λa A↦?_)))
    refine sdo (v := iV 6) A (qb rfl rfl (ar_add rfl)) λa A↦?_
    refine sda A λa A↦?_
    refine qa (hK70 _ _ (wsk fun K71 hK71 => wrl ?_))
    iterate 3 refine sdm A λa A↦?_
    refine gcl A M (ef rfl rfl) (zdc) fun w73 hb72 M a A => ?_
    refine sdo (v := bV false) A dbK λa A↦?_
    refine sdk (v := bV false) A λa A↦?_
    refine sdm A λa A↦?_
    iterate 4 refine qf A rfl rfl rfl λa A↦?_
    refine sdk (v := bV false) A λa A↦?_
    iterate 2 refine sdm A λa A↦?_
    iterate 5 refine qf A rfl rfl rfl λa A↦?_
    refine sdk (v := bV false) A λa A↦?_
    refine sdm A λa A↦?_
    iterate 4 refine qf A rfl rfl rfl λa A↦?_
    iterate 2 refine sdk (v := bV false) A λa A↦?_
    refine qa (hK71 _ _ (cf A ?_))
    refine wp_skip (hK12 _ _ (zh ?_))
    intro K74 hK74
    refine wsk fun K75 hK75 => wsk fun K76 hK76 => wrl ?_
    iterate 2 refine sdm A λa A↦?_
    refine sdo (v := iV 7) A (qy (s := s7) Tryz.underlying9 rfl) λa A↦?_
    refine sdo (v := bV true) A dbK λa A↦?_
    refine qa (hK76 _ _ (ct A ?_))
    refine wp_skip (hK75 _ _ (wp_block (ji 0 rfl ?_)))
    refine wsk fun K77 hK77 => wsk fun K78 hK78 => zj (S := fun w1 => Mg w w1 ([])) (by kernel_rfl) ?_
    replace M := M.drew
    refine amv A 0 rfl hP (M.sub ns) λa A↦?_
    refine amv A 1 rfl hP (M.sub ns) λa A↦?_
    refine atk (v := .int .u8 168) A 2 rfl hP (M.sub ns) (λ_ M↦qx (s := s7) (i := 6) (b := 168) Tryz.underlying9 rfl rfl rfl rfl) λa A↦?_
    refine amv A 3 rfl hP (M.sub ns) λa A↦?_
    refine amv A 4 rfl hP (M.sub ns) λa A↦?_
    refine atk (v := .int .u8 (((b1.toNat : Nat) : Int))) A 5 rfl hP (M.sub ns) (λ_ M↦qx (s := [b0, b1]) (i := 1) (b := b1) Tryz.underlying9 rfl rfl rfl rfl) λa A↦?_
    refine atk (v := bV true) A 6 rfl hP (M.sub ns) (λ_ M↦qb rfl rfl (fun w => (za w).trans (by rw [show ((168 != ((b1.toNat : Nat) : Int))) = true from (bne_iff_ne.2 (by omega))]))) λa A↦?_
    refine qr (by kernel_rfl) ?_
    refine hK78 _ _ (ct A ?_)
    refine wsk fun K79 hK79 => zj (S := fun w1 => Mg w w1 ([])) (by kernel_rfl) ?_
    replace M := M.drew
    refine amv A 0 rfl hP (M.sub ns) λa A↦?_
    refine amv A 1 rfl hP (M.sub ns) λa A↦?_
    refine atk (v := iV 7) A 2 rfl hP (M.sub ns) (λ_ M↦qb rfl rfl (ar_add rfl)) λa A↦?_
    refine atk (v := .string ((tx ([])))) A 3 rfl hP (M.sub ns) (λ_ M↦ja (s := s7) (p := 7) Tryz.underlying9 rfl rfl rfl (by decide)) λa A↦?_
    refine amv A 4 rfl hP (M.sub ns) λa A↦?_
    refine amv A 5 rfl hP (M.sub ns) λa A↦?_
    refine atk (v := .int .u8 (((b1.toNat : Nat) : Int))) A 6 rfl hP (M.sub ns) (λ_ M↦qx (s := [b0, b1]) (i := 1) (b := b1) Tryz.underlying9 rfl rfl rfl rfl) λa A↦?_
    refine zg (by kernel_rfl) (zt A 7 rfl rfl rfl rfl (ef rfl rfl) (vv (l := []) (b := b1) (by rw [zdb])) ?_)
    rintro _ w81 ⟨rfl, hb80⟩
    replace M := M.call hb80
    refine ⟨_, rfl, (M.sub ns), ?_⟩
    intro a A
    refine atk A 8 rfl hP (M.sub ns) (λ_ M↦qs rfl) λa A↦?_
    refine qr (by kernel_rfl) ?_
    refine hK79 _ _ (wsk fun K82 hK82 => wsk fun K83 hK83 => wrl (sdm A λa A↦?_))
    refine sdo (v := bV true) A dbK λa A↦?_
    refine qa (hK83 _ _ (ct A ?_))
    refine wsk fun K84 hK84 => wrl (sda A λa A↦?_)
    refine qa (hK84 _ _ (wr1 hret A ?_))
    exact ⟨_, rfl, by rw [show ln7 r = false from decide_eq_false (by omega)]; rfl, M.bel⟩
   ·
    have hb67' := bne_eq_false_iff_eq.1 hb67
    refine atk (v := bV false) A 10 rfl hP (M.sub ns) (λ_ M↦qb rfl rfl (fun w => (za w).trans (by rw [hb67]))) λa A↦?_
    refine qr (by kernel_rfl) ?_
    refine hK66 _ _ (cf A ?_)
    refine wp_skip (hK65 _ _ (wrl (sdm A λa A↦?_)))
    refine sdo (v := iV 2) A (qb rfl rfl (ar_add rfl)) λa A↦?_
    refine sda A λa A↦?_
    refine qa (hK62 _ _ (zh ?_))
    intro K85 hK85
    refine wsk fun K86 hK86 => wsk fun K87 hK87 => wrl ?_
    iterate 2 refine sdm A λa A↦?_
    refine sdo (v := iV 2) A (qy (s := [b0, b1]) Tryz.underlying9 rfl) λa A↦?_
    refine sdo (v := bV false) A dbK λa A↦?_
    refine qa (hK87 _ _ (cf A ?_))
    refine wp_exit (hK60 _ _ (wsk fun K88 hK88 => wsk fun K89 hK89 => wrl ?_))
    iterate 2 refine sdm A λa A↦?_
    refine sdo (v := iV 4) A (qb rfl rfl (ar_sub rfl)) λa A↦?_
    refine sda A λa A↦?_
    refine qa (hK89 _ _ (wr1 hret A ?_))
    exact ⟨_, rfl, by rw [show ln7 r = true from decide_eq_true (by omega)]; rfl, M.bel⟩
  ·
   have hb55' := ne_of_beq_false hb55
   rcases tf (((((b1.toNat : Nat) : Int)) == 168)) with hb91 | hb91
   ·
    have hb91' := eq_of_beq hb91
    refine zg (by kernel_rfl) (zt A 7 rfl rfl rfl rfl (ef rfl rfl) (vv (l := [194, 133, 226, 128, 168]) (b := b1) (by rw [zcj, if_neg (by omega), if_neg (by omega), if_neg (by omega), if_neg (by omega), if_pos (by omega)])) ?_)
    rintro _ w93 ⟨rfl, hb92⟩
    replace M := M.call hb92
    refine ⟨_, rfl, (M.sub ns), ?_⟩
    intro a A
    refine atk A 8 rfl hP (M.sub ns) (λ_ M↦qs rfl) λa A↦?_
    refine qr (by kernel_rfl) ?_
    refine hK17 _ _ (wsk fun K94 hK94 => wsk fun K95 hK95 => wrl (sdm A λa A↦?_))
    refine sdo (v := bV false) A dbK λa A↦?_
    refine qa (hK95 _ _ (cf A ?_))
    refine wp_skip (hK94 _ _ (wrl ?_))
    iterate 2 refine sdm A λa A↦?_
    refine sdo (v := iV 5) A (qb rfl rfl (ar_add rfl)) λa A↦?_
    refine sdo (v := iV 6) A (qb rfl rfl (ar_add rfl)) λa A↦?_
    refine sda A λa A↦?_
    refine qa (hK15 _ _ (wsk fun K96 hK96 => wsk fun K97 hK97 => wrl (sda A λa A↦?_)))
    refine qa (hK97 _ _ (wp_block (wp_loop_rounds 9 ?_)))
    refine zh ?_
    intro K98 hK98
    refine wsk fun K99 hK99 => wsk fun K100 hK100 => wrl ?_
    iterate 2 refine sdm A λa A↦?_
    refine sdo (v := iV 2) A (qy (s := [b0, b1]) Tryz.underlying9 rfl) λa A↦?_
    refine sdo (v := bV true) A dbK λa A↦?_
    refine qa (hK100 _ _ (ct A ?_))
    refine wp_skip (hK99 _ _ (wsk fun K101 hK101 => wp_block (wsk fun K102 hK102 => zj (S := fun w1 => Mg w w1 ([])) (by kernel_rfl) ?_)))
    replace M := M.drew
    refine amv A 0 rfl hP (M.sub ns) λa A↦?_
    refine amv A 1 rfl hP (M.sub ns) λa A↦?_
    refine amv A 2 rfl hP (M.sub ns) λa A↦?_
    refine atk (v := iV 5) A 3 rfl hP (M.sub ns) (λ_ M↦qb rfl rfl (ar_sub rfl)) λa A↦?_
    refine atk (v := .int .u8 128) A 4 rfl hP (M.sub ns) (λ_ M↦qx (s := s7) (i := 5) (b := 128) Tryz.underlying9 rfl rfl rfl rfl) λa A↦?_
    refine amv A 5 rfl hP (M.sub ns) λa A↦?_
    refine amv A 6 rfl hP (M.sub ns) λa A↦?_
    refine amv A 7 rfl hP (M.sub ns) λa A↦?_
    refine atk (v := iV 0) A 8 rfl hP (M.sub ns) (λ_ M↦qb rfl rfl (ar_sub rfl)) λa A↦?_
    refine atk (v := .int .u8 (((b0.toNat : Nat) : Int))) A 9 rfl hP (M.sub ns) (λ_ M↦qx (s := [b0, b1]) (i := 0) (b := b0) Tryz.underlying9 rfl rfl rfl rfl) λa A↦?_
    rcases tf ((128 != ((b0.toNat : Nat) : Int))) with hb103 | hb103
    ·
     have hb103' := bne_iff_ne.1 hb103
     refine atk (v := bV true) A 10 rfl hP (M.sub ns) (λ_ M↦qb rfl rfl (fun w => (za w).trans (by rw [hb103]))) λa A↦?_
     refine qr (by kernel_rfl) ?_
     refine hK102 _ _ (ct A ?_)
     refine wp_goto (And.intro rfl ?_)
     refine wsk fun K104 hK104 => wp_skip (hK104 _ _ (wsk fun K105 hK105 => wrl (sdm A λa A↦?_)))
     refine sdo (v := iV 1) A (qb rfl rfl (ar_add rfl)) λa A↦?_
     refine sda A λa A↦?_
     refine qa (hK105 _ _ (wsk fun K106 hK106 => wrl (sdm A λa A↦?_)))
     refine sdo (v := iV 7) A (qb rfl rfl (ar_add rfl)) λa A↦?_
     refine sda A λa A↦?_
     refine qa (hK106 _ _ (wsk fun K107 hK107 => wrl ?_))
     iterate 3 refine sdm A λa A↦?_
     refine gcl A M (ef rfl rfl) (qjb) fun w109 hb108 M a A => ?_
     refine sdo (v := bV false) A dbK λa A↦?_
     refine sdk (v := bV false) A λa A↦?_
     refine sdm A λa A↦?_
     iterate 4 refine qf A rfl rfl rfl λa A↦?_
     refine sdk (v := bV false) A λa A↦?_
     iterate 2 refine sdm A λa A↦?_
     iterate 5 refine qf A rfl rfl rfl λa A↦?_
     refine sdk (v := bV false) A λa A↦?_
     refine sdm A λa A↦?_
     iterate 4 refine qf A rfl rfl rfl λa A↦?_
     iterate 2 refine sdk (v := bV false) A λa A↦?_
     refine qa (hK107 _ _ (cf A ?_))
     refine wp_skip (hK12 _ _ (zh ?_))
     intro K110 hK110
     refine wsk fun K111 hK111 => wsk fun K112 hK112 => wrl ?_
     iterate 2 refine sdm A λa A↦?_
     refine sdo (v := iV 7) A (qy (s := s7) Tryz.underlying9 rfl) λa A↦?_
     refine sdo (v := bV false) A dbK λa A↦?_
     refine qa (hK112 _ _ (cf A ?_))
     refine wp_exit (hK11 _ _ (wsk fun K113 hK113 => wsk fun K114 hK114 => wrl (sda A λa A↦?_)))
     refine qa (hK114 _ _ (wr1 hret A ?_))
     exact ⟨_, rfl, by rw [show ln7 r = false from decide_eq_false (by omega)]; rfl, M.bel⟩
    ·
     have hb103' := bne_eq_false_iff_eq.1 hb103
     refine atk (v := bV false) A 10 rfl hP (M.sub ns) (λ_ M↦qb rfl rfl (fun w => (za w).trans (by rw [hb103]))) λa A↦?_
     refine qr (by kernel_rfl) ?_
     refine hK102 _ _ (cf A ?_)
     refine wp_skip (hK101 _ _ (wrl (sdm A λa A↦?_)))
     refine sdo (v := iV 2) A (qb rfl rfl (ar_add rfl)) λa A↦?_
     refine sda A λa A↦?_
     refine qa (hK98 _ _ (zh ?_))
     intro K115 hK115
     refine wsk fun K116 hK116 => wsk fun K117 hK117 => wrl ?_
     iterate 2 refine sdm A λa A↦?_
     refine sdo (v := iV 2) A (qy (s := [b0, b1]) Tryz.underlying9 rfl) λa A↦?_
     refine sdo (v := bV false) A dbK λa A↦?_
     refine qa (hK117 _ _ (cf A ?_))
     refine wp_exit (hK96 _ _ (wsk fun K118 hK118 => wsk fun K119 hK119 => wrl ?_))
     iterate 2 refine sdm A λa A↦?_
     refine sdo (v := iV 5) A (qb rfl rfl (ar_sub rfl)) λa A↦?_
     refine sda A λa A↦?_
     refine qa (hK119 _ _ (wr1 hret A ?_))
     exact ⟨_, rfl, by rw [show ln7 r = true from decide_eq_true (by omega)]; rfl, M.bel⟩
   ·
    have hb91' := ne_of_beq_false hb91
    refine zg (by kernel_rfl) (zt A 7 rfl rfl rfl rfl (ef rfl rfl) (vv (l := [194, 133, 226, 128, 168]) (b := b1) (by rw [zcj, if_neg (by omega), if_neg (by omega), if_neg (by omega), if_neg (by omega), if_neg (by omega)])) ?_)
    rintro _ w121 ⟨rfl, hb120⟩
    replace M := M.call hb120
    refine ⟨_, rfl, (M.sub ns), ?_⟩
    intro a A
    refine atk A 8 rfl hP (M.sub ns) (λ_ M↦qs rfl) λa A↦?_
    refine qr (by kernel_rfl) ?_
    refine hK17 _ _ (wsk fun K122 hK122 => wsk fun K123 hK123 => wrl (sdm A λa A↦?_))
    refine sdo (v := bV true) A dbK λa A↦?_
    refine qa (hK123 _ _ (ct A ?_))
    refine wsk fun K124 hK124 => wrl (sda A λa A↦?_)
    refine qa (hK124 _ _ (wr1 hret A ?_))
    exact ⟨_, rfl, by rw [show ln7 r = false from decide_eq_false (by omega)]; rfl, M.bel⟩
theorem jaf {w : World} {r : Int} {b0 b1 b2 : UInt8} (h0 : 2048 ≤ r) (h1 : r ≤ 65535) (hne : r ≠ 65533) (hv : Lib.validRune r = true) (henc : Utf8.encode r = tx [b0, b1, b2]) (e0 : ((b0.toNat : Nat) : Int) = 224 + r / 4096) (e1 : ((b1.toNat : Nat) : Int) = 128 + r / 64 % 64) (e2 : ((b2.toNat : Nat) : Int) = 128 + r % 64) : Calls Tryz.prog 71 #[.string (tx s7), .int .i32 r] w fun e w' => ∃ v : Int, e = .returned (iV v) ∧ decide (0 ≤ v) = ln7 r ∧ Below w.heap.size w w' := by
 have g0 : 224 ≤ ((b0.toNat : Nat) : Int) ∧ ((b0.toNat : Nat) : Int) ≤ 239 := by omega
 have g1 : 128 ≤ ((b1.toNat : Nat) : Int) ∧ ((b1.toNat : Nat) : Int) ≤ 191 := by omega
 have g2 : 128 ≤ ((b2.toNat : Nat) : Int) ∧ ((b2.toNat : Nat) : Int) ≤ 191 := by omega
 have M : Mg w w ([]) := Mg.start w
 refine qw (l := [(0, .string ((tx (s7)))), (1, .int .i32 r)]) Tryz.func71 rfl Tryz.ntmps71 rfl rfl ?_
 intro Q hret hnorm hP a A
 refine wsk fun K1 hK1 => wrl (sda A λa A↦?_)
 refine qa (hK1 _ _ (wp_block (wsk fun K2 hK2 => wrl (sdm A λa A↦?_))))
 refine sdo (v := bV true) A (qb rfl rfl (fun w => (jl w).trans (by rw [show (decide (0 ≤ r)) = true from (decide_eq_true (by omega))]))) λa A↦?_
 iterate 2 refine sdm A λa A↦?_
 refine sdo (v := bV false) A (qb rfl rfl (fun w => (jk w).trans (by rw [show (decide (r < 128)) = false from (decide_eq_false (by omega))]))) λa A↦?_
 refine sdk (v := bV false) A λa A↦?_
 refine sda A λa A↦?_
 refine qa (hK2 _ _ (cf A ?_))
 refine wsk fun K3 hK3 => wrl (sdm A λa A↦?_)
 refine sdo (v := bV false) A (qb rfl rfl (fun w => (qj w).trans (by rw [show ((r == 65533)) = false from (beq_eq_false_iff_ne.2 (by omega))]))) λa A↦?_
 refine sda A λa A↦?_
 refine qa (hK3 _ _ (cf A ?_))
 refine wsk fun K4 hK4 => wrl (sdm A λa A↦?_)
 refine gcl A M (ef rfl rfl) (zlb hv) fun w6 hb5 M a A => ?_
 refine sdo (v := bV false) A (zi rfl zr) λa A↦?_
 refine sda A λa A↦?_
 refine qa (hK4 _ _ (cf A ?_))
 refine ji 1 rfl ?_
 refine wsk fun K7 hK7 => wrl (sdm A λa A↦?_)
 refine sdo (v := .string ((tx ([b0, b1, b2])))) A (zy rfl (fun w => (run_convert_int_string w _ _ .i32 r (by kernel_rfl) Tryz.underlying9).trans (by rw [henc]))) λa A↦?_
 refine sda A λa A↦?_
 refine qa (hK7 _ _ (wsk fun K8 hK8 => wrl (sdm A λa A↦?_)))
 refine sdo (v := iV 3) A (qy (s := [b0, b1, b2]) Tryz.underlying9 rfl) λa A↦?_
 refine sdo (v := iV 2) A (qb rfl rfl (ar_sub rfl)) λa A↦?_
 refine sda A λa A↦?_
 refine qa (hK8 _ _ (wsk fun K9 hK9 => wrl (sdm A λa A↦?_)))
 refine sda A λa A↦?_
 refine qa (hK9 _ _ (wsk fun K10 hK10 => wrl (sda A λa A↦?_)))
 refine qa (hK10 _ _ (wsk fun K11 hK11 => wp_block (wp_loop_rounds 9 ?_)))
 refine zh ?_
 intro K12 hK12
 refine wsk fun K13 hK13 => wsk fun K14 hK14 => wrl ?_
 iterate 2 refine sdm A λa A↦?_
 refine sdo (v := iV 7) A (qy (s := s7) Tryz.underlying9 rfl) λa A↦?_
 refine sdo (v := bV true) A dbK λa A↦?_
 refine qa (hK14 _ _ (ct A ?_))
 refine wp_skip (hK13 _ _ (wp_block (ji 0 rfl ?_)))
 refine wsk fun K15 hK15 => wsk fun K16 hK16 => zj (S := fun w1 => Mg w w1 ([])) (by kernel_rfl) ?_
 replace M := M.drew
 refine amv A 0 rfl hP (M.sub ns) λa A↦?_
 refine amv A 1 rfl hP (M.sub ns) λa A↦?_
 refine atk (v := .int .u8 194) A 2 rfl hP (M.sub ns) (λ_ M↦qx (s := s7) (i := 2) (b := 194) Tryz.underlying9 rfl rfl rfl rfl) λa A↦?_
 refine amv A 3 rfl hP (M.sub ns) λa A↦?_
 refine amv A 4 rfl hP (M.sub ns) λa A↦?_
 refine atk (v := .int .u8 (((b2.toNat : Nat) : Int))) A 5 rfl hP (M.sub ns) (λ_ M↦qx (s := [b0, b1, b2]) (i := 2) (b := b2) Tryz.underlying9 rfl rfl rfl rfl) λa A↦?_
 refine atk (v := bV true) A 6 rfl hP (M.sub ns) (λ_ M↦qb rfl rfl (fun w => (za w).trans (by rw [show ((194 != ((b2.toNat : Nat) : Int))) = true from (bne_iff_ne.2 (by omega))]))) λa A↦?_
 refine qr (by kernel_rfl) ?_
 refine hK16 _ _ (ct A ?_)
 refine wsk fun K17 hK17 => zj (S := fun w1 => Mg w w1 ([])) (by kernel_rfl) ?_
 replace M := M.drew
 refine amv A 0 rfl hP (M.sub ns) λa A↦?_
 refine amv A 1 rfl hP (M.sub ns) λa A↦?_
 refine atk (v := iV 3) A 2 rfl hP (M.sub ns) (λ_ M↦qb rfl rfl (ar_add rfl)) λa A↦?_
 refine atk (v := .string ((tx ([133, 226, 128, 168])))) A 3 rfl hP (M.sub ns) (λ_ M↦ja (s := s7) (p := 3) Tryz.underlying9 rfl rfl rfl (by decide)) λa A↦?_
 refine amv A 4 rfl hP (M.sub ns) λa A↦?_
 refine amv A 5 rfl hP (M.sub ns) λa A↦?_
 refine atk (v := .int .u8 (((b2.toNat : Nat) : Int))) A 6 rfl hP (M.sub ns) (λ_ M↦qx (s := [b0, b1, b2]) (i := 2) (b := b2) Tryz.underlying9 rfl rfl rfl rfl) λa A↦?_
 rcases tf (((((b2.toNat : Nat) : Int)) == 133)) with hb19 | hb19
 ·
  have hb19' := eq_of_beq hb19
  refine zg (by kernel_rfl) (zt A 7 rfl rfl rfl rfl (ef rfl rfl) (vv (l := [133, 226, 128, 168]) (b := b2) (by rw [zda, if_pos (by omega)])) ?_)
  rintro _ w21 ⟨rfl, hb20⟩
  replace M := M.call hb20
  refine ⟨_, rfl, (M.sub ns), ?_⟩
  intro a A
  refine atk A 8 rfl hP (M.sub ns) (λ_ M↦qs rfl) λa A↦?_
  refine qr (by kernel_rfl) ?_
  refine hK17 _ _ (wsk fun K22 hK22 => wsk fun K23 hK23 => wrl (sdm A λa A↦?_))
  refine sdo (v := bV false) A dbK λa A↦?_
  refine qa (hK23 _ _ (cf A ?_))
  refine wp_skip (hK22 _ _ (wrl ?_))
  iterate 2 refine sdm A λa A↦?_
  refine sdo (v := iV 1) A (qb rfl rfl (ar_add rfl)) λa A↦?_
  refine sdo (v := iV 3) A (qb rfl rfl (ar_add rfl)) λa A↦?_
  refine sda A λa A↦?_
  refine qa (hK15 _ _ (wsk fun K24 hK24 => wsk fun K25 hK25 => wrl (sda A λa A↦?_)))
  refine qa (hK25 _ _ (wp_block (wp_loop_rounds 9 ?_)))
  refine zh ?_
  intro K26 hK26
  refine wsk fun K27 hK27 => wsk fun K28 hK28 => wrl ?_
  iterate 2 refine sdm A λa A↦?_
  refine sdo (v := iV 3) A (qy (s := [b0, b1, b2]) Tryz.underlying9 rfl) λa A↦?_
  refine sdo (v := bV true) A dbK λa A↦?_
  refine qa (hK28 _ _ (ct A ?_))
  refine wp_skip (hK27 _ _ (wsk fun K29 hK29 => wp_block (wsk fun K30 hK30 => zj (S := fun w1 => Mg w w1 ([])) (by kernel_rfl) ?_)))
  replace M := M.drew
  refine amv A 0 rfl hP (M.sub ns) λa A↦?_
  refine amv A 1 rfl hP (M.sub ns) λa A↦?_
  refine amv A 2 rfl hP (M.sub ns) λa A↦?_
  refine atk (v := iV 2) A 3 rfl hP (M.sub ns) (λ_ M↦qb rfl rfl (ar_sub rfl)) λa A↦?_
  refine atk (v := .int .u8 194) A 4 rfl hP (M.sub ns) (λ_ M↦qx (s := s7) (i := 2) (b := 194) Tryz.underlying9 rfl rfl rfl rfl) λa A↦?_
  refine amv A 5 rfl hP (M.sub ns) λa A↦?_
  refine amv A 6 rfl hP (M.sub ns) λa A↦?_
  refine amv A 7 rfl hP (M.sub ns) λa A↦?_
  refine atk (v := iV 1) A 8 rfl hP (M.sub ns) (λ_ M↦qb rfl rfl (ar_sub rfl)) λa A↦?_
  refine atk (v := .int .u8 (((b1.toNat : Nat) : Int))) A 9 rfl hP (M.sub ns) (λ_ M↦qx (s := [b0, b1, b2]) (i := 1) (b := b1) Tryz.underlying9 rfl rfl rfl rfl) λa A↦?_
  refine atk (v := bV true) A 10 rfl hP (M.sub ns) (λ_ M↦qb rfl rfl (fun w => (za w).trans (by rw [show ((194 != ((b1.toNat : Nat) : Int))) = true from (bne_iff_ne.2 (by omega))]))) λa A↦?_
  refine qr (by kernel_rfl) ?_
  refine hK30 _ _ (ct A ?_)
  refine wp_goto (And.intro rfl ?_)
  refine wsk fun K31 hK31 => wp_skip (hK31 _ _ (wsk fun K32 hK32 => wrl (sdm A λa A↦?_)))
  refine sdo (v := iV 1) A (qb rfl rfl (ar_add rfl)) λa A↦?_
  refine sda A λa A↦?_
  refine qa (hK32 _ _ (wsk fun K33 hK33 => wrl (sdm A λa A↦?_)))
  refine sdo (v := iV 4) A (qb rfl rfl (ar_add rfl)) λa A↦?_
  refine sda A λa A↦?_
  refine qa (hK33 _ _ (wsk fun K34 hK34 => wrl ?_))
  iterate 3 refine sdm A λa A↦?_
  refine gcl A M (ef rfl rfl) (zlc) fun w36 hb35 M a A => ?_
  refine sdo (v := bV false) A dbK λa A↦?_
  refine sdk (v := bV false) A λa A↦?_
  refine sdm A λa A↦?_
  iterate 4 refine qf A rfl rfl rfl λa A↦?_
  refine sdk (v := bV false) A λa A↦?_
  iterate 2 refine sdm A λa A↦?_
  iterate 5 refine qf A rfl rfl rfl λa A↦?_
  refine sdk (v := bV false) A λa A↦?_
  refine sdm A λa A↦?_
  iterate 4 refine qf A rfl rfl rfl λa A↦?_
  iterate 2 refine sdk (v := bV false) A λa A↦?_
  refine qa (hK34 _ _ (cf A ?_))
  refine wp_skip (hK12 _ _ (zh ?_))
  intro K37 hK37
  refine wsk fun K38 hK38 => wsk fun K39 hK39 => wrl ?_
  iterate 2 refine sdm A λa A↦?_
  refine sdo (v := iV 7) A (qy (s := s7) Tryz.underlying9 rfl) λa A↦?_
  refine sdo (v := bV true) A dbK λa A↦?_
  refine qa (hK39 _ _ (ct A ?_))
  refine wp_skip (hK38 _ _ (wp_block (ji 0 rfl ?_)))
  refine wsk fun K40 hK40 => wsk fun K41 hK41 => zj (S := fun w1 => Mg w w1 ([])) (by kernel_rfl) ?_
  replace M := M.drew
  refine amv A 0 rfl hP (M.sub ns) λa A↦?_
  refine amv A 1 rfl hP (M.sub ns) λa A↦?_
  refine atk (v := .int .u8 226) A 2 rfl hP (M.sub ns) (λ_ M↦qx (s := s7) (i := 4) (b := 226) Tryz.underlying9 rfl rfl rfl rfl) λa A↦?_
  refine amv A 3 rfl hP (M.sub ns) λa A↦?_
  refine amv A 4 rfl hP (M.sub ns) λa A↦?_
  refine atk (v := .int .u8 (((b2.toNat : Nat) : Int))) A 5 rfl hP (M.sub ns) (λ_ M↦qx (s := [b0, b1, b2]) (i := 2) (b := b2) Tryz.underlying9 rfl rfl rfl rfl) λa A↦?_
  refine atk (v := bV true) A 6 rfl hP (M.sub ns) (λ_ M↦qb rfl rfl (fun w => (za w).trans (by rw [show ((226 != ((b2.toNat : Nat) : Int))) = true from (bne_iff_ne.2 (by omega))]))) λa A↦?_
  refine qr (by kernel_rfl) ?_
  refine hK41 _ _ (ct A ?_)
  refine wsk fun K42 hK42 => zj (S := fun w1 => Mg w w1 ([])) (by kernel_rfl) ?_
  replace M := M.drew
  refine amv A 0 rfl hP (M.sub ns) λa A↦?_
  refine amv A 1 rfl hP (M.sub ns) λa A↦?_
  refine atk (v := iV 5) A 2 rfl hP (M.sub ns) (λ_ M↦qb rfl rfl (ar_add rfl)) λa A↦?_
  refine atk (v := .string ((tx ([128, 168])))) A 3 rfl hP (M.sub ns) (λ_ M↦ja (s := s7) (p := 5) Tryz.underlying9 rfl rfl rfl (by decide)) λa A↦?_
  refine amv A 4 rfl hP (M.sub ns) λa A↦?_
  refine amv A 5 rfl hP (M.sub ns) λa A↦?_
  refine atk (v := .int .u8 (((b2.toNat : Nat) : Int))) A 6 rfl hP (M.sub ns) (λ_ M↦qx (s := [b0, b1, b2]) (i := 2) (b := b2) Tryz.underlying9 rfl rfl rfl rfl) λa A↦?_
  refine zg (by kernel_rfl) (zt A 7 rfl rfl rfl rfl (ef rfl rfl) (vv (l := [128, 168]) (b := b2) (by rw [qrc, if_neg (by omega), if_neg (by omega)])) ?_)
  rintro _ w44 ⟨rfl, hb43⟩
  replace M := M.call hb43
  refine ⟨_, rfl, (M.sub ns), ?_⟩
  intro a A
  refine atk A 8 rfl hP (M.sub ns) (λ_ M↦qs rfl) λa A↦?_
  refine qr (by kernel_rfl) ?_
  refine hK42 _ _ (wsk fun K45 hK45 => wsk fun K46 hK46 => wrl (sdm A λa A↦?_))
  refine sdo (v := bV true) A dbK λa A↦?_
  refine qa (hK46 _ _ (ct A ?_))
  refine wsk fun K47 hK47 => wrl (sda A λa A↦?_)
  refine qa (hK47 _ _ (wr1 hret A ?_))
  exact ⟨_, rfl, by rw [show ln7 r = false from decide_eq_false (by omega)]; rfl, M.bel⟩
 ·
  have hb19' := ne_of_beq_false hb19
  rcases tf (((((b2.toNat : Nat) : Int)) == 128)) with hb49 | hb49
  ·
   have hb49' := eq_of_beq hb49
   refine zg (by kernel_rfl) (zt A 7 rfl rfl rfl rfl (ef rfl rfl) (vv (l := [133, 226, 128, 168]) (b := b2) (by rw [zda, if_neg (by omega), if_neg (by omega), if_pos (by omega)])) ?_)
   rintro _ w51 ⟨rfl, hb50⟩
   replace M := M.call hb50
   refine ⟨_, rfl, (M.sub ns), ?_⟩
   intro a A
   refine atk A 8 rfl hP (M.sub ns) (λ_ M↦qs rfl) λa A↦?_
   refine qr (by kernel_rfl) ?_
   refine hK17 _ _ (wsk fun K52 hK52 => wsk fun K53 hK53 => wrl (sdm A λa A↦?_))
   refine sdo (v := bV false) A dbK λa A↦?_
   refine qa (hK53 _ _ (cf A ?_))
   refine wp_skip (hK52 _ _ (wrl ?_))
   iterate 2 refine sdm A λa A↦?_
   refine sdo (v := iV 3) A (qb rfl rfl (ar_add rfl)) λa A↦?_
   refine sdo (v := iV 5) A (qb rfl rfl (ar_add rfl)) λa A↦?_
   refine sda A λa A↦?_
   refine qa (hK15 _ _ (wsk fun K54 hK54 => wsk fun K55 hK55 => wrl (sda A λa A↦?_)))
   refine qa (hK55 _ _ (wp_block (wp_loop_rounds 9 ?_)))
   refine zh ?_
   intro K56 hK56
   refine wsk fun K57 hK57 => wsk fun K58 hK58 => wrl ?_
   iterate 2 refine sdm A λa A↦?_
   refine sdo (v := iV 3) A (qy (s := [b0, b1, b2]) Tryz.underlying9 rfl) λa A↦?_
   refine sdo (v := bV true) A dbK λa A↦?_
   refine qa (hK58 _ _ (ct A ?_))
   refine wp_skip (hK57 _ _ (wsk fun K59 hK59 => wp_block (wsk fun K60 hK60 => zj (S := fun w1 => Mg w w1 ([])) (by kernel_rfl) ?_)))
   replace M := M.drew
   refine amv A 0 rfl hP (M.sub ns) λa A↦?_
   refine amv A 1 rfl hP (M.sub ns) λa A↦?_
   refine amv A 2 rfl hP (M.sub ns) λa A↦?_
   refine atk (v := iV 4) A 3 rfl hP (M.sub ns) (λ_ M↦qb rfl rfl (ar_sub rfl)) λa A↦?_
   refine atk (v := .int .u8 226) A 4 rfl hP (M.sub ns) (λ_ M↦qx (s := s7) (i := 4) (b := 226) Tryz.underlying9 rfl rfl rfl rfl) λa A↦?_
   refine amv A 5 rfl hP (M.sub ns) λa A↦?_
   refine amv A 6 rfl hP (M.sub ns) λa A↦?_
   refine amv A 7 rfl hP (M.sub ns) λa A↦?_
   refine atk (v := iV 1) A 8 rfl hP (M.sub ns) (λ_ M↦qb rfl rfl (ar_sub rfl)) λa A↦?_
   refine atk (v := .int .u8 (((b1.toNat : Nat) : Int))) A 9 rfl hP (M.sub ns) (λ_ M↦qx (s := [b0, b1, b2]) (i := 1) (b := b1) Tryz.underlying9 rfl rfl rfl rfl) λa A↦?_
   refine atk (v := bV true) A 10 rfl hP (M.sub ns) (λ_ M↦qb rfl rfl (fun w => (za w).trans (by rw [show ((226 != ((b1.toNat : Nat) : Int))) = true from (bne_iff_ne.2 (by omega))]))) λa A↦?_
   refine qr (by kernel_rfl) ?_
   refine hK60 _ _ (ct A ?_)
   refine wp_goto (And.intro rfl ?_)
   refine wsk fun K61 hK61 => wp_skip (hK61 _ _ (wsk fun K62 hK62 => wrl (sdm A λa A↦?_)))
   refine sdo (v := iV 1) A (qb rfl rfl (ar_add rfl)) λa A↦?_
   refine sda A λa A↦?_
   refine qa (hK62 _ _ (wsk fun K63 hK63 => wrl (sdm A λa A↦?_)))
   refine sdo (v := iV 6) A (qb rfl rfl (ar_add rfl)) λa A↦?_
   refine sda A λa A↦?_
   refine qa (hK63 _ _ (wsk fun K64 hK64 => wrl ?_))
   iterate 3 refine sdm A λa A↦?_
   refine gcl A M (ef rfl rfl) (zdc) fun w66 hb65 M a A => ?_
   refine sdo (v := bV false) A dbK λa A↦?_
   refine sdk (v := bV false) A λa A↦?_
   refine sdm A λa A↦?_
   iterate 4 refine qf A rfl rfl rfl λa A↦?_
   refine sdk (v := bV false) A λa A↦?_
   iterate 2 refine sdm A λa A↦?_
   iterate 5 refine qf A rfl rfl rfl λa A↦?_
   refine sdk (v := bV false) A λa A↦?_
   refine sdm A λa A↦?_
   iterate 4 refine qf A rfl rfl rfl λa A↦?_
   iterate 2 refine sdk (v := bV false) A λa A↦?_
   refine qa (hK64 _ _ (cf A ?_))
   refine wp_skip (hK12 _ _ (zh ?_))
   intro K67 hK67
   refine wsk fun K68 hK68 => wsk fun K69 hK69 => wrl ?_
   iterate 2 refine sdm A λa A↦?_
   refine sdo (v := iV 7) A (qy (s := s7) Tryz.underlying9 rfl) λa A↦?_
   refine sdo (v := bV true) A dbK λa A↦?_
   refine qa (hK69 _ _ (ct A ?_))
   refine wp_skip (hK68 _ _ (wp_block (ji 0 rfl ?_)))
   refine wsk fun K70 hK70 => wsk fun K71 hK71 => zj (S := fun w1 => Mg w w1 ([])) (by kernel_rfl) ?_
   replace M := M.drew
   refine amv A 0 rfl hP (M.sub ns) λa A↦?_
   refine amv A 1 rfl hP (M.sub ns) λa A↦?_
   refine atk (v := .int .u8 168) A 2 rfl hP (M.sub ns) (λ_ M↦qx (s := s7) (i := 6) (b := 168) Tryz.underlying9 rfl rfl rfl rfl) λa A↦?_
   refine amv A 3 rfl hP (M.sub ns) λa A↦?_
   refine amv A 4 rfl hP (M.sub ns) λa A↦?_
   refine atk (v := .int .u8 (((b2.toNat : Nat) : Int))) A 5 rfl hP (M.sub ns) (λ_ M↦qx (s := [b0, b1, b2]) (i := 2) (b := b2) Tryz.underlying9 rfl rfl rfl rfl) λa A↦?_
   refine atk (v := bV true) A 6 rfl hP (M.sub ns) (λ_ M↦qb rfl rfl (fun w => (za w).trans (by rw [show ((168 != ((b2.toNat : Nat) : Int))) = true from (bne_iff_ne.2 (by omega))]))) λa A↦?_
   refine qr (by kernel_rfl) ?_
   refine hK71 _ _ (ct A ?_)
   refine wsk fun K72 hK72 => zj (S := fun w1 => Mg w w1 ([])) (by kernel_rfl) ?_
   replace M := M.drew
   refine amv A 0 rfl hP (M.sub ns) λa A↦?_
   refine amv A 1 rfl hP (M.sub ns) λa A↦?_
   refine atk (v := iV 7) A 2 rfl hP (M.sub ns) (λ_ M↦qb rfl rfl (ar_add rfl)) λa A↦?_
   refine atk (v := .string ((tx ([])))) A 3 rfl hP (M.sub ns) (λ_ M↦ja (s := s7) (p := 7) Tryz.underlying9 rfl rfl rfl (by decide)) λa A↦?_
   refine amv A 4 rfl hP (M.sub ns) λa A↦?_
   refine amv A 5 rfl hP (M.sub ns) λa A↦?_
   refine atk (v := .int .u8 (((b2.toNat : Nat) : Int))) A 6 rfl hP (M.sub ns) (λ_ M↦qx (s := [b0, b1, b2]) (i := 2) (b := b2) Tryz.underlying9 rfl rfl rfl rfl) λa A↦?_
   refine zg (by kernel_rfl) (zt A 7 rfl rfl rfl rfl (ef rfl rfl) (vv (l := []) (b := b2) (by rw [zdb])) ?_)
   rintro _ w74 ⟨rfl, hb73⟩
   replace M := M.call hb73
   refine ⟨_, rfl, (M.sub ns), ?_⟩
   intro a A
   refine atk A 8 rfl hP (M.sub ns) (λ_ M↦qs rfl) λa A↦?_
   refine qr (by kernel_rfl) ?_
   refine hK72 _ _ (wsk fun K75 hK75 => wsk fun K76 hK76 => wrl (sdm A λa A↦?_))
   refine sdo (v := bV true) A dbK λa A↦?_
   refine qa (hK76 _ _ (ct A ?_))
   refine wsk fun K77 hK77 => wrl (sda A λa A↦?_)
   refine qa (hK77 _ _ (wr1 hret A ?_))
   exact ⟨_, rfl, by rw [show ln7 r = false from decide_eq_false (by omega)]; rfl, M.bel⟩
  ·
   have hb49' := ne_of_beq_false hb49
   rcases tf (((((b2.toNat : Nat) : Int)) == 168)) with hb79 | hb79
   ·
    have hb79' := eq_of_beq hb79
    refine zg (by kernel_rfl) (zt A 7 rfl rfl rfl rfl (ef rfl rfl) (vv (l := [133, 226, 128, 168]) (b := b2) (by rw [zda, if_neg (by omega), if_neg (by omega), if_neg (by omega), if_pos (by omega)])) ?_)
    rintro _ w81 ⟨rfl, hb80⟩
    replace M := M.call hb80
    refine ⟨_, rfl, (M.sub ns), ?_⟩
    intro a A
    refine atk A 8 rfl hP (M.sub ns) (λ_ M↦qs rfl) λa A↦?_
    refine qr (by kernel_rfl) ?_
    refine hK17 _ _ (wsk fun K82 hK82 => wsk fun K83 hK83 => wrl (sdm A λa A↦?_))
    refine sdo (v := bV false) A dbK λa A↦?_
    refine qa (hK83 _ _ (cf A ?_))
    refine wp_skip (hK82 _ _ (wrl ?_))
    iterate 2 refine sdm A λa A↦?_
    refine sdo (v := iV 4) A (qb rfl rfl (ar_add rfl)) λa A↦?_
    refine sdo (v := iV 6) A (qb rfl rfl (ar_add rfl)) λa A↦?_
    refine sda A λa A↦?_
    refine qa (hK15 _ _ (wsk fun K84 hK84 => wsk fun K85 hK85 => wrl (sda A λa A↦?_)))
    refine qa (hK85 _ _ (wp_block (wp_loop_rounds 9 ?_)))
    refine zh ?_
    intro K86 hK86
    refine wsk fun K87 hK87 => wsk fun K88 hK88 => wrl ?_
    iterate 2 refine sdm A λa A↦?_
    refine sdo (v := iV 3) A (qy (s := [b0, b1, b2]) Tryz.underlying9 rfl) λa A↦?_
    refine sdo (v := bV true) A dbK λa A↦?_
    refine qa (hK88 _ _ (ct A ?_))
    refine wp_skip (hK87 _ _ (wsk fun K89 hK89 => wp_block (wsk fun K90 hK90 => zj (S := fun w1 => Mg w w1 ([])) (by kernel_rfl) ?_)))
    replace M := M.drew
    refine amv A 0 rfl hP (M.sub ns) λa A↦?_
    refine amv A 1 rfl hP (M.sub ns) λa A↦?_
    refine amv A 2 rfl hP (M.sub ns) λa A↦?_
    refine atk (v := iV 5) A 3 rfl hP (M.sub ns) (λ_ M↦qb rfl rfl (ar_sub rfl)) λa A↦?_
    refine atk (v := .int .u8 128) A 4 rfl hP (M.sub ns) (λ_ M↦qx (s := s7) (i := 5) (b := 128) Tryz.underlying9 rfl rfl rfl rfl) λa A↦?_
    refine amv A 5 rfl hP (M.sub ns) λa A↦?_
    refine amv A 6 rfl hP (M.sub ns) λa A↦?_
    refine amv A 7 rfl hP (M.sub ns) λa A↦?_
    refine atk (v := iV 1) A 8 rfl hP (M.sub ns) (λ_ M↦qb rfl rfl (ar_sub rfl)) λa A↦?_
    refine atk (v := .int .u8 (((b1.toNat : Nat) : Int))) A 9 rfl hP (M.sub ns) (λ_ M↦qx (s := [b0, b1, b2]) (i := 1) (b := b1) Tryz.underlying9 rfl rfl rfl rfl) λa A↦?_
    rcases tf ((128 != ((b1.toNat : Nat) : Int))) with hb91 | hb91
    ·
     have hb91' := bne_iff_ne.1 hb91
     refine atk (v := bV true) A 10 rfl hP (M.sub ns) (λ_ M↦qb rfl rfl (fun w => (za w).trans (by rw [hb91]))) λa A↦?_
     refine qr (by kernel_rfl) ?_
     refine hK90 _ _ (ct A ?_)
     refine wp_goto (And.intro rfl ?_)
     refine wsk fun K92 hK92 => wp_skip (hK92 _ _ (wsk fun K93 hK93 => wrl (sdm A λa A↦?_)))
     refine sdo (v := iV 1) A (qb rfl rfl (ar_add rfl)) λa A↦?_
     refine sda A λa A↦?_
     refine qa (hK93 _ _ (wsk fun K94 hK94 => wrl (sdm A λa A↦?_)))
     refine sdo (v := iV 7) A (qb rfl rfl (ar_add rfl)) λa A↦?_
     refine sda A λa A↦?_
     refine qa (hK94 _ _ (wsk fun K95 hK95 => wrl ?_))
     iterate 3 refine sdm A λa A↦?_
     refine gcl A M (ef rfl rfl) (qjb) fun w97 hb96 M a A => ?_
     refine sdo (v := bV false) A dbK λa A↦?_
     refine sdk (v := bV false) A λa A↦?_
     refine sdm A λa A↦?_
     iterate 4 refine qf A rfl rfl rfl λa A↦?_
     refine sdk (v := bV false) A λa A↦?_
     iterate 2 refine sdm A λa A↦?_
     iterate 5 refine qf A rfl rfl rfl λa A↦?_
     refine sdk (v := bV false) A λa A↦?_
     refine sdm A λa A↦?_
     iterate 4 refine qf A rfl rfl rfl λa A↦?_
     iterate 2 refine sdk (v := bV false) A λa A↦?_
     refine qa (hK95 _ _ (cf A ?_))
     refine wp_skip (hK12 _ _ (zh ?_))
     intro K98 hK98
     refine wsk fun K99 hK99 => wsk fun K100 hK100 => wrl ?_
     iterate 2 refine sdm A λa A↦?_
     refine sdo (v := iV 7) A (qy (s := s7) Tryz.underlying9 rfl) λa A↦?_
     refine sdo (v := bV false) A dbK λa A↦?_
     refine qa (hK100 _ _ (cf A ?_))
     refine wp_exit (hK11 _ _ (wsk fun K101 hK101 => wsk fun K102 hK102 => wrl (sda A λa A↦?_)))
     refine qa (hK102 _ _ (wr1 hret A ?_))
     exact ⟨_, rfl, by rw [show ln7 r = false from decide_eq_false (by omega)]; rfl, M.bel⟩
    ·
     have hb91' := bne_eq_false_iff_eq.1 hb91
     refine atk (v := bV false) A 10 rfl hP (M.sub ns) (λ_ M↦qb rfl rfl (fun w => (za w).trans (by rw [hb91]))) λa A↦?_
     refine qr (by kernel_rfl) ?_
     refine hK90 _ _ (cf A ?_)
     refine wp_skip (hK89 _ _ (wrl (sdm A λa A↦?_)))
     refine sdo (v := iV 2) A (qb rfl rfl (ar_add rfl)) λa A↦?_
     refine sda A λa A↦?_
     refine qa (hK86 _ _ (zh ?_))
     intro K103 hK103
     refine wsk fun K104 hK104 => wsk fun K105 hK105 => wrl ?_
     iterate 2 refine sdm A λa A↦?_
     refine sdo (v := iV 3) A (qy (s := [b0, b1, b2]) Tryz.underlying9 rfl) λa A↦?_
     refine sdo (v := bV true) A dbK λa A↦?_
     refine qa (hK105 _ _ (ct A ?_))
     refine wp_skip (hK104 _ _ (wsk fun K106 hK106 => wp_block (wsk fun K107 hK107 => zj (S := fun w1 => Mg w w1 ([])) (by kernel_rfl) ?_)))
     replace M := M.drew
     refine amv A 0 rfl hP (M.sub ns) λa A↦?_
     refine amv A 1 rfl hP (M.sub ns) λa A↦?_
     refine amv A 2 rfl hP (M.sub ns) λa A↦?_
     refine atk (v := iV 4) A 3 rfl hP (M.sub ns) (λ_ M↦qb rfl rfl (ar_sub rfl)) λa A↦?_
     refine atk (v := .int .u8 226) A 4 rfl hP (M.sub ns) (λ_ M↦qx (s := s7) (i := 4) (b := 226) Tryz.underlying9 rfl rfl rfl rfl) λa A↦?_
     refine amv A 5 rfl hP (M.sub ns) λa A↦?_
     refine amv A 6 rfl hP (M.sub ns) λa A↦?_
     refine amv A 7 rfl hP (M.sub ns) λa A↦?_
     refine atk (v := iV 0) A 8 rfl hP (M.sub ns) (λ_ M↦qb rfl rfl (ar_sub rfl)) λa A↦?_
     refine atk (v := .int .u8 (((b0.toNat : Nat) : Int))) A 9 rfl hP (M.sub ns) (λ_ M↦qx (s := [b0, b1, b2]) (i := 0) (b := b0) Tryz.underlying9 rfl rfl rfl rfl) λa A↦?_
     rcases tf ((226 != ((b0.toNat : Nat) : Int))) with hb108 | hb108
     ·
      have hb108' := bne_iff_ne.1 hb108
      refine atk (v := bV true) A 10 rfl hP (M.sub ns) (λ_ M↦qb rfl rfl (fun w => (za w).trans (by rw [hb108]))) λa A↦?_
      refine qr (by kernel_rfl) ?_
      refine hK107 _ _ (ct A ?_)
      refine wp_goto (And.intro rfl ?_)
      refine wsk fun K109 hK109 => wp_skip (hK109 _ _ (wsk fun K110 hK110 => wrl (sdm A λa A↦?_)))
      refine sdo (v := iV 1) A (qb rfl rfl (ar_add rfl)) λa A↦?_
      refine sda A λa A↦?_
      refine qa (hK110 _ _ (wsk fun K111 hK111 => wrl (sdm A λa A↦?_)))
      refine sdo (v := iV 7) A (qb rfl rfl (ar_add rfl)) λa A↦?_
      refine sda A λa A↦?_
      refine qa (hK111 _ _ (wsk fun K112 hK112 => wrl ?_))
      iterate 3 refine sdm A λa A↦?_
      refine gcl A M (ef rfl rfl) (qjb) fun w114 hb113 M a A => ?_
      refine sdo (v := bV false) A dbK λa A↦?_
      refine sdk (v := bV false) A λa A↦?_
      refine sdm A λa A↦?_
      iterate 4 refine qf A rfl rfl rfl λa A↦?_
      refine sdk (v := bV false) A λa A↦?_
      iterate 2 refine sdm A λa A↦?_
      iterate 5 refine qf A rfl rfl rfl λa A↦?_
      refine sdk (v := bV false) A λa A↦?_
      refine sdm A λa A↦?_
      iterate 4 refine qf A rfl rfl rfl λa A↦?_
      iterate 2 refine sdk (v := bV false) A λa A↦?_
      refine qa (hK112 _ _ (cf A ?_))
      refine wp_skip (hK12 _ _ (zh ?_))
      intro K115 hK115
      refine wsk fun K116 hK116 => wsk fun K117 hK117 => wrl ?_
      iterate 2 refine sdm A λa A↦?_
      refine sdo (v := iV 7) A (qy (s := s7) Tryz.underlying9 rfl) λa A↦?_
      refine sdo (v := bV false) A dbK λa A↦?_
      refine qa (hK117 _ _ (cf A ?_))
      refine wp_exit (hK11 _ _ (wsk fun K118 hK118 => wsk fun K119 hK119 => wrl (sda A λa A↦?_)))
      refine qa (hK119 _ _ (wr1 hret A ?_))
      exact ⟨_, rfl, by rw [show ln7 r = false from decide_eq_false (by omega)]; rfl, M.bel⟩
     ·
      have hb108' := bne_eq_false_iff_eq.1 hb108
      refine atk (v := bV false) A 10 rfl hP (M.sub ns) (λ_ M↦qb rfl rfl (fun w => (za w).trans (by rw [hb108]))) λa A↦?_
      refine qr (by kernel_rfl) ?_
      refine hK107 _ _ (cf A ?_)
      refine wp_skip (hK106 _ _ (wrl (sdm A λa A↦?_)))
      refine sdo (v := iV 3) A (qb rfl rfl (ar_add rfl)) λa A↦?_
      refine sda A λa A↦?_
      refine qa (hK103 _ _ (zh ?_))
      intro K120 hK120
      refine wsk fun K121 hK121 => wsk fun K122 hK122 => wrl ?_
      iterate 2 refine sdm A λa A↦?_
      refine sdo (v := iV 3) A (qy (s := [b0, b1, b2]) Tryz.underlying9 rfl) λa A↦?_
      refine sdo (v := bV false) A dbK λa A↦?_
      refine qa (hK122 _ _ (cf A ?_))
      refine wp_exit (hK84 _ _ (wsk fun K123 hK123 => wsk fun K124 hK124 => wrl ?_))
      iterate 2 refine sdm A λa A↦?_
      refine sdo (v := iV 4) A (qb rfl rfl (ar_sub rfl)) λa A↦?_
      refine sda A λa A↦?_
      refine qa (hK124 _ _ (wr1 hret A ?_))
      exact ⟨_, rfl, by rw [show ln7 r = true from decide_eq_true (by omega)]; rfl, M.bel⟩
   ·
    have hb79' := ne_of_beq_false hb79
    refine zg (by kernel_rfl) (zt A 7 rfl rfl rfl rfl (ef rfl rfl) (vv (l := [133, 226, 128, 168]) (b := b2) (by rw [zda, if_neg (by omega), if_neg (by omega), if_neg (by omega), if_neg (by omega)])) ?_)
    rintro _ w126 ⟨rfl, hb125⟩
    replace M := M.call hb125
    refine ⟨_, rfl, (M.sub ns), ?_⟩
    intro a A
    refine atk A 8 rfl hP (M.sub ns) (λ_ M↦qs rfl) λa A↦?_
    refine qr (by kernel_rfl) ?_
    refine hK17 _ _ (wsk fun K127 hK127 => wsk fun K128 hK128 => wrl (sdm A λa A↦?_))
    refine sdo (v := bV true) A dbK λa A↦?_
    refine qa (hK128 _ _ (ct A ?_))
    refine wsk fun K129 hK129 => wrl (sda A λa A↦?_)
    refine qa (hK129 _ _ (wr1 hret A ?_))
    exact ⟨_, rfl, by rw [show ln7 r = false from decide_eq_false (by omega)]; rfl, M.bel⟩
theorem jag {w : World} {r : Int} {b0 b1 b2 b3 : UInt8} (h0 : 65536 ≤ r) (h1 : r ≤ 1114111) (hne : r ≠ 65533) (hv : Lib.validRune r = true) (henc : Utf8.encode r = tx [b0, b1, b2, b3]) (e0 : ((b0.toNat : Nat) : Int) = 240 + r / 262144) (e1 : ((b1.toNat : Nat) : Int) = 128 + r / 4096 % 64) (e2 : ((b2.toNat : Nat) : Int) = 128 + r / 64 % 64) (e3 : ((b3.toNat : Nat) : Int) = 128 + r % 64) : Calls Tryz.prog 71 #[.string (tx s7), .int .i32 r] w fun e w' => ∃ v : Int, e = .returned (iV v) ∧ decide (0 ≤ v) = ln7 r ∧ Below w.heap.size w w' := by
 have g0 : 240 ≤ ((b0.toNat : Nat) : Int) ∧ ((b0.toNat : Nat) : Int) ≤ 244 := by omega
 have g1 : 128 ≤ ((b1.toNat : Nat) : Int) ∧ ((b1.toNat : Nat) : Int) ≤ 191 := by omega
 have g2 : 128 ≤ ((b2.toNat : Nat) : Int) ∧ ((b2.toNat : Nat) : Int) ≤ 191 := by omega
 have g3 : 128 ≤ ((b3.toNat : Nat) : Int) ∧ ((b3.toNat : Nat) : Int) ≤ 191 := by omega
 have M : Mg w w ([]) := Mg.start w
 refine qw (l := [(0, .string ((tx (s7)))), (1, .int .i32 r)]) Tryz.func71 rfl Tryz.ntmps71 rfl rfl ?_
 intro Q hret hnorm hP a A
 refine wsk fun K1 hK1 => wrl (sda A λa A↦?_)
 refine qa (hK1 _ _ (wp_block (wsk fun K2 hK2 => wrl (sdm A λa A↦?_))))
 refine sdo (v := bV true) A (qb rfl rfl (fun w => (jl w).trans (by rw [show (decide (0 ≤ r)) = true from (decide_eq_true (by omega))]))) λa A↦?_
 iterate 2 refine sdm A λa A↦?_
 refine sdo (v := bV false) A (qb rfl rfl (fun w => (jk w).trans (by rw [show (decide (r < 128)) = false from (decide_eq_false (by omega))]))) λa A↦?_
 refine sdk (v := bV false) A λa A↦?_
 refine sda A λa A↦?_
 refine qa (hK2 _ _ (cf A ?_))
 refine wsk fun K3 hK3 => wrl (sdm A λa A↦?_)
 refine sdo (v := bV false) A (qb rfl rfl (fun w => (qj w).trans (by rw [show ((r == 65533)) = false from (beq_eq_false_iff_ne.2 (by omega))]))) λa A↦?_
 refine sda A λa A↦?_
 refine qa (hK3 _ _ (cf A ?_))
 refine wsk fun K4 hK4 => wrl (sdm A λa A↦?_)
 refine gcl A M (ef rfl rfl) (zlb hv) fun w6 hb5 M a A => ?_
 refine sdo (v := bV false) A (zi rfl zr) λa A↦?_
 refine sda A λa A↦?_
 refine qa (hK4 _ _ (cf A ?_))
 refine ji 1 rfl ?_
 refine wsk fun K7 hK7 => wrl (sdm A λa A↦?_)
 refine sdo (v := .string ((tx ([b0, b1, b2, b3])))) A (zy rfl (fun w => (run_convert_int_string w _ _ .i32 r (by kernel_rfl) Tryz.underlying9).trans (by rw [henc]))) λa A↦?_
 refine sda A λa A↦?_
 refine qa (hK7 _ _ (wsk fun K8 hK8 => wrl (sdm A λa A↦?_)))
 refine sdo (v := iV 4) A (qy (s := [b0, b1, b2, b3]) Tryz.underlying9 rfl) λa A↦?_
 refine sdo (v := iV 3) A (qb rfl rfl (ar_sub rfl)) λa A↦?_
 refine sda A λa A↦?_
 refine qa (hK8 _ _ (wsk fun K9 hK9 => wrl (sdm A λa A↦?_)))
 refine sda A λa A↦?_
 refine qa (hK9 _ _ (wsk fun K10 hK10 => wrl (sda A λa A↦?_)))
 refine qa (hK10 _ _ (wsk fun K11 hK11 => wp_block (wp_loop_rounds 9 ?_)))
 refine zh ?_
 intro K12 hK12
 refine wsk fun K13 hK13 => wsk fun K14 hK14 => wrl ?_
 iterate 2 refine sdm A λa A↦?_
 refine sdo (v := iV 7) A (qy (s := s7) Tryz.underlying9 rfl) λa A↦?_
 refine sdo (v := bV true) A dbK λa A↦?_
 refine qa (hK14 _ _ (ct A ?_))
 refine wp_skip (hK13 _ _ (wp_block (ji 0 rfl ?_)))
 refine wsk fun K15 hK15 => wsk fun K16 hK16 => zj (S := fun w1 => Mg w w1 ([])) (by kernel_rfl) ?_
 replace M := M.drew
 refine amv A 0 rfl hP (M.sub ns) λa A↦?_
 refine amv A 1 rfl hP (M.sub ns) λa A↦?_
 refine atk (v := .int .u8 133) A 2 rfl hP (M.sub ns) (λ_ M↦qx (s := s7) (i := 3) (b := 133) Tryz.underlying9 rfl rfl rfl rfl) λa A↦?_
 refine amv A 3 rfl hP (M.sub ns) λa A↦?_
 refine amv A 4 rfl hP (M.sub ns) λa A↦?_
 refine atk (v := .int .u8 (((b3.toNat : Nat) : Int))) A 5 rfl hP (M.sub ns) (λ_ M↦qx (s := [b0, b1, b2, b3]) (i := 3) (b := b3) Tryz.underlying9 rfl rfl rfl rfl) λa A↦?_
 rcases tf ((133 != ((b3.toNat : Nat) : Int))) with hb17 | hb17
 ·
  have hb17' := bne_iff_ne.1 hb17
  refine atk (v := bV true) A 6 rfl hP (M.sub ns) (λ_ M↦qb rfl rfl (fun w => (za w).trans (by rw [hb17]))) λa A↦?_
  refine qr (by kernel_rfl) ?_
  refine hK16 _ _ (ct A ?_)
  refine wsk fun K18 hK18 => zj (S := fun w1 => Mg w w1 ([])) (by kernel_rfl) ?_
  replace M := M.drew
  refine amv A 0 rfl hP (M.sub ns) λa A↦?_
  refine amv A 1 rfl hP (M.sub ns) λa A↦?_
  refine atk (v := iV 4) A 2 rfl hP (M.sub ns) (λ_ M↦qb rfl rfl (ar_add rfl)) λa A↦?_
  refine atk (v := .string ((tx ([226, 128, 168])))) A 3 rfl hP (M.sub ns) (λ_ M↦ja (s := s7) (p := 4) Tryz.underlying9 rfl rfl rfl (by decide)) λa A↦?_
  refine amv A 4 rfl hP (M.sub ns) λa A↦?_
  refine amv A 5 rfl hP (M.sub ns) λa A↦?_
  refine atk (v := .int .u8 (((b3.toNat : Nat) : Int))) A 6 rfl hP (M.sub ns) (λ_ M↦qx (s := [b0, b1, b2, b3]) (i := 3) (b := b3) Tryz.underlying9 rfl rfl rfl rfl) λa A↦?_
  rcases tf (((((b3.toNat : Nat) : Int)) == 128)) with hb20 | hb20
  ·
   have hb20' := eq_of_beq hb20
   refine zg (by kernel_rfl) (zt A 7 rfl rfl rfl rfl (ef rfl rfl) (vv (l := [226, 128, 168]) (b := b3) (by rw [zla, if_neg (by omega), if_pos (by omega)])) ?_)
   rintro _ w22 ⟨rfl, hb21⟩
   replace M := M.call hb21
   refine ⟨_, rfl, (M.sub ns), ?_⟩
   intro a A
   refine atk A 8 rfl hP (M.sub ns) (λ_ M↦qs rfl) λa A↦?_
   refine qr (by kernel_rfl) ?_
   refine hK18 _ _ (wsk fun K23 hK23 => wsk fun K24 hK24 => wrl (sdm A λa A↦?_))
   refine sdo (v := bV false) A dbK λa A↦?_
   refine qa (hK24 _ _ (cf A ?_))
   refine wp_skip (hK23 _ _ (wrl ?_))
   iterate 2 refine sdm A λa A↦?_
   refine sdo (v := iV 2) A (qb rfl rfl (ar_add rfl)) λa A↦?_
   refine sdo (v := iV 5) A (qb rfl rfl (ar_add rfl)) λa A↦?_
   refine sda A λa A↦?_
   refine qa (hK15 _ _ (wsk fun K25 hK25 => wsk fun K26 hK26 => wrl (sda A λa A↦?_)))
   refine qa (hK26 _ _ (wp_block (wp_loop_rounds 9 ?_)))
   refine zh ?_
   intro K27 hK27
   refine wsk fun K28 hK28 => wsk fun K29 hK29 => wrl ?_
   iterate 2 refine sdm A λa A↦?_
   refine sdo (v := iV 4) A (qy (s := [b0, b1, b2, b3]) Tryz.underlying9 rfl) λa A↦?_
   refine sdo (v := bV true) A dbK λa A↦?_
   refine qa (hK29 _ _ (ct A ?_))
   refine wp_skip (hK28 _ _ (wsk fun K30 hK30 => wp_block (wsk fun K31 hK31 => zj (S := fun w1 => Mg w w1 ([])) (by kernel_rfl) ?_)))
   replace M := M.drew
   refine amv A 0 rfl hP (M.sub ns) λa A↦?_
   refine amv A 1 rfl hP (M.sub ns) λa A↦?_
   refine amv A 2 rfl hP (M.sub ns) λa A↦?_
   refine atk (v := iV 4) A 3 rfl hP (M.sub ns) (λ_ M↦qb rfl rfl (ar_sub rfl)) λa A↦?_
   refine atk (v := .int .u8 226) A 4 rfl hP (M.sub ns) (λ_ M↦qx (s := s7) (i := 4) (b := 226) Tryz.underlying9 rfl rfl rfl rfl) λa A↦?_
   refine amv A 5 rfl hP (M.sub ns) λa A↦?_
   refine amv A 6 rfl hP (M.sub ns) λa A↦?_
   refine amv A 7 rfl hP (M.sub ns) λa A↦?_
   refine atk (v := iV 2) A 8 rfl hP (M.sub ns) (λ_ M↦qb rfl rfl (ar_sub rfl)) λa A↦?_
   refine atk (v := .int .u8 (((b2.toNat : Nat) : Int))) A 9 rfl hP (M.sub ns) (λ_ M↦qx (s := [b0, b1, b2, b3]) (i := 2) (b := b2) Tryz.underlying9 rfl rfl rfl rfl) λa A↦?_
   refine atk (v := bV true) A 10 rfl hP (M.sub ns) (λ_ M↦qb rfl rfl (fun w => (za w).trans (by rw [show ((226 != ((b2.toNat : Nat) : Int))) = true from (bne_iff_ne.2 (by omega))]))) λa A↦?_
   refine qr (by kernel_rfl) ?_
   refine hK31 _ _ (ct A ?_)
   refine wp_goto (And.intro rfl ?_)
   refine wsk fun K32 hK32 => wp_skip (hK32 _ _ (wsk fun K33 hK33 => wrl (sdm A λa A↦?_)))
   refine sdo (v := iV 1) A (qb rfl rfl (ar_add rfl)) λa A↦?_
   refine sda A λa A↦?_
   refine qa (hK33 _ _ (wsk fun K34 hK34 => wrl (sdm A λa A↦?_)))
   refine sdo (v := iV 6) A (qb rfl rfl (ar_add rfl)) λa A↦?_
   refine sda A λa A↦?_
   refine qa (hK34 _ _ (wsk fun K35 hK35 => wrl ?_))
   iterate 3 refine sdm A λa A↦?_
   refine gcl A M (ef rfl rfl) (zdc) fun w37 hb36 M a A => ?_
   refine sdo (v := bV false) A dbK λa A↦?_
   refine sdk (v := bV false) A λa A↦?_
   refine sdm A λa A↦?_
   iterate 4 refine qf A rfl rfl rfl λa A↦?_
   refine sdk (v := bV false) A λa A↦?_
   iterate 2 refine sdm A λa A↦?_
   iterate 5 refine qf A rfl rfl rfl λa A↦?_
   refine sdk (v := bV false) A λa A↦?_
   refine sdm A λa A↦?_
   iterate 4 refine qf A rfl rfl rfl λa A↦?_
   iterate 2 refine sdk (v := bV false) A λa A↦?_
   refine qa (hK35 _ _ (cf A ?_))
   refine wp_skip (hK12 _ _ (zh ?_))
   intro K38 hK38
   refine wsk fun K39 hK39 => wsk fun K40 hK40 => wrl ?_
   iterate 2 refine sdm A λa A↦?_
   refine sdo (v := iV 7) A (qy (s := s7) Tryz.underlying9 rfl) λa A↦?_
   refine sdo (v := bV true) A dbK λa A↦?_
   refine qa (hK40 _ _ (ct A ?_))
   refine wp_skip (hK39 _ _ (wp_block (ji 0 rfl ?_)))
   refine wsk fun K41 hK41 => wsk fun K42 hK42 => zj (S := fun w1 => Mg w w1 ([])) (by kernel_rfl) ?_
   replace M := M.drew
   refine amv A 0 rfl hP (M.sub ns) λa A↦?_
   refine amv A 1 rfl hP (M.sub ns) λa A↦?_
   refine atk (v := .int .u8 168) A 2 rfl hP (M.sub ns) (λ_ M↦qx (s := s7) (i := 6) (b := 168) Tryz.underlying9 rfl rfl rfl rfl) λa A↦?_
   refine amv A 3 rfl hP (M.sub ns) λa A↦?_
   refine amv A 4 rfl hP (M.sub ns) λa A↦?_
   refine atk (v := .int .u8 (((b3.toNat : Nat) : Int))) A 5 rfl hP (M.sub ns) (λ_ M↦qx (s := [b0, b1, b2, b3]) (i := 3) (b := b3) Tryz.underlying9 rfl rfl rfl rfl) λa A↦?_
   refine atk (v := bV true) A 6 rfl hP (M.sub ns) (λ_ M↦qb rfl rfl (fun w => (za w).trans (by rw [show ((168 != ((b3.toNat : Nat) : Int))) = true from (bne_iff_ne.2 (by omega))]))) λa A↦?_
   refine qr (by kernel_rfl) ?_
   refine hK42 _ _ (ct A ?_)
   refine wsk fun K43 hK43 => zj (S := fun w1 => Mg w w1 ([])) (by kernel_rfl) ?_
   replace M := M.drew
   refine amv A 0 rfl hP (M.sub ns) λa A↦?_
   refine amv A 1 rfl hP (M.sub ns) λa A↦?_
   refine atk (v := iV 7) A 2 rfl hP (M.sub ns) (λ_ M↦qb rfl rfl (ar_add rfl)) λa A↦?_
   refine atk (v := .string ((tx ([])))) A 3 rfl hP (M.sub ns) (λ_ M↦ja (s := s7) (p := 7) Tryz.underlying9 rfl rfl rfl (by decide)) λa A↦?_
   refine amv A 4 rfl hP (M.sub ns) λa A↦?_
   refine amv A 5 rfl hP (M.sub ns) λa A↦?_
   refine atk (v := .int .u8 (((b3.toNat : Nat) : Int))) A 6 rfl hP (M.sub ns) (λ_ M↦qx (s := [b0, b1, b2, b3]) (i := 3) (b := b3) Tryz.underlying9 rfl rfl rfl rfl) λa A↦?_
   refine zg (by kernel_rfl) (zt A 7 rfl rfl rfl rfl (ef rfl rfl) (vv (l := []) (b := b3) (by rw [zdb])) ?_)
   rintro _ w45 ⟨rfl, hb44⟩
   replace M := M.call hb44
   refine ⟨_, rfl, (M.sub ns), ?_⟩
   intro a A
   refine atk A 8 rfl hP (M.sub ns) (λ_ M↦qs rfl) λa A↦?_
   refine qr (by kernel_rfl) ?_
   refine hK43 _ _ (wsk fun K46 hK46 => wsk fun K47 hK47 => wrl (sdm A λa A↦?_))
   refine sdo (v := bV true) A dbK λa A↦?_
   refine qa (hK47 _ _ (ct A ?_))
   refine wsk fun K48 hK48 => wrl (sda A λa A↦?_)
   refine qa (hK48 _ _ (wr1 hret A ?_))
   exact ⟨_, rfl, by rw [show ln7 r = false from decide_eq_false (by omega)]; rfl, M.bel⟩
  ·
   have hb20' := ne_of_beq_false hb20
   rcases tf (((((b3.toNat : Nat) : Int)) == 168)) with hb50 | hb50
   ·
    have hb50' := eq_of_beq hb50
    refine zg (by kernel_rfl) (zt A 7 rfl rfl rfl rfl (ef rfl rfl) (vv (l := [226, 128, 168]) (b := b3) (by rw [zla, if_neg (by omega), if_neg (by omega), if_pos (by omega)])) ?_)
    rintro _ w52 ⟨rfl, hb51⟩
    replace M := M.call hb51
    refine ⟨_, rfl, (M.sub ns), ?_⟩
    intro a A
    refine atk A 8 rfl hP (M.sub ns) (λ_ M↦qs rfl) λa A↦?_
    refine qr (by kernel_rfl) ?_
    refine hK18 _ _ (wsk fun K53 hK53 => wsk fun K54 hK54 => wrl (sdm A λa A↦?_))
    refine sdo (v := bV false) A dbK λa A↦?_
    refine qa (hK54 _ _ (cf A ?_))
    refine wp_skip (hK53 _ _ (wrl ?_))
    iterate 2 refine sdm A λa A↦?_
    refine sdo (v := iV 3) A (qb rfl rfl (ar_add rfl)) λa A↦?_
    refine sdo (v := iV 6) A (qb rfl rfl (ar_add rfl)) λa A↦?_
    refine sda A λa A↦?_
    refine qa (hK15 _ _ (wsk fun K55 hK55 => wsk fun K56 hK56 => wrl (sda A λa A↦?_)))
    refine qa (hK56 _ _ (wp_block (wp_loop_rounds 9 ?_)))
    refine zh ?_
    intro K57 hK57
    refine wsk fun K58 hK58 => wsk fun K59 hK59 => wrl ?_
    iterate 2 refine sdm A λa A↦?_
    refine sdo (v := iV 4) A (qy (s := [b0, b1, b2, b3]) Tryz.underlying9 rfl) λa A↦?_
    refine sdo (v := bV true) A dbK λa A↦?_
    refine qa (hK59 _ _ (ct A ?_))
    refine wp_skip (hK58 _ _ (wsk fun K60 hK60 => wp_block (wsk fun K61 hK61 => zj (S := fun w1 => Mg w w1 ([])) (by kernel_rfl) ?_)))
    replace M := M.drew
    refine amv A 0 rfl hP (M.sub ns) λa A↦?_
    refine amv A 1 rfl hP (M.sub ns) λa A↦?_
    refine amv A 2 rfl hP (M.sub ns) λa A↦?_
    refine atk (v := iV 5) A 3 rfl hP (M.sub ns) (λ_ M↦qb rfl rfl (ar_sub rfl)) λa A↦?_
    refine atk (v := .int .u8 128) A 4 rfl hP (M.sub ns) (λ_ M↦qx (s := s7) (i := 5) (b := 128) Tryz.underlying9 rfl rfl rfl rfl) λa A↦?_
    refine amv A 5 rfl hP (M.sub ns) λa A↦?_
    refine amv A 6 rfl hP (M.sub ns) λa A↦?_
    refine amv A 7 rfl hP (M.sub ns) λa A↦?_
    refine atk (v := iV 2) A 8 rfl hP (M.sub ns) (λ_ M↦qb rfl rfl (ar_sub rfl)) λa A↦?_
    refine atk (v := .int .u8 (((b2.toNat : Nat) : Int))) A 9 rfl hP (M.sub ns) (λ_ M↦qx (s := [b0, b1, b2, b3]) (i := 2) (b := b2) Tryz.underlying9 rfl rfl rfl rfl) λa A↦?_
    rcases tf ((128 != ((b2.toNat : Nat) : Int))) with hb62 | hb62
    ·
     have hb62' := bne_iff_ne.1 hb62
     refine atk (v := bV true) A 10 rfl hP (M.sub ns) (λ_ M↦qb rfl rfl (fun w => (za w).trans (by rw [hb62]))) λa A↦?_
     refine qr (by kernel_rfl) ?_
     refine hK61 _ _ (ct A ?_)
     refine wp_goto (And.intro rfl ?_)
     refine wsk fun K63 hK63 => wp_skip (hK63 _ _ (wsk fun K64 hK64 => wrl (sdm A λa A↦?_)))
     refine sdo (v := iV 1) A (qb rfl rfl (ar_add rfl)) λa A↦?_
     refine sda A λa A↦?_
     refine qa (hK64 _ _ (wsk fun K65 hK65 => wrl (sdm A λa A↦?_)))
     refine sdo (v := iV 7) A (qb rfl rfl (ar_add rfl)) λa A↦?_
     refine sda A λa A↦?_
     refine qa (hK65 _ _ (wsk fun K66 hK66 => wrl ?_))
     iterate 3 refine sdm A λa A↦?_
     refine gcl A M (ef rfl rfl) (qjb) fun w68 hb67 M a A => ?_
     refine sdo (v := bV false) A dbK λa A↦?_
     refine sdk (v := bV false) A λa A↦?_
     refine sdm A λa A↦?_
     iterate 4 refine qf A rfl rfl rfl λa A↦?_
     refine sdk (v := bV false) A λa A↦?_
     iterate 2 refine sdm A λa A↦?_
     iterate 5 refine qf A rfl rfl rfl λa A↦?_
     refine sdk (v := bV false) A λa A↦?_
     refine sdm A λa A↦?_
     iterate 4 refine qf A rfl rfl rfl λa A↦?_
     iterate 2 refine sdk (v := bV false) A λa A↦?_
     refine qa (hK66 _ _ (cf A ?_))
     refine wp_skip (hK12 _ _ (zh ?_))
     intro K69 hK69
     refine wsk fun K70 hK70 => wsk fun K71 hK71 => wrl ?_
     iterate 2 refine sdm A λa A↦?_
     refine sdo (v := iV 7) A (qy (s := s7) Tryz.underlying9 rfl) λa A↦?_
     refine sdo (v := bV false) A dbK λa A↦?_
     refine qa (hK71 _ _ (cf A ?_))
     refine wp_exit (hK11 _ _ (wsk fun K72 hK72 => wsk fun K73 hK73 => wrl (sda A λa A↦?_)))
     refine qa (hK73 _ _ (wr1 hret A ?_))
     exact ⟨_, rfl, by rw [show ln7 r = false from decide_eq_false (by omega)]; rfl, M.bel⟩
    ·
     have hb62' := bne_eq_false_iff_eq.1 hb62
     refine atk (v := bV false) A 10 rfl hP (M.sub ns) (λ_ M↦qb rfl rfl (fun w => (za w).trans (by rw [hb62]))) λa A↦?_
     refine qr (by kernel_rfl) ?_
     refine hK61 _ _ (cf A ?_)
     refine wp_skip (hK60 _ _ (wrl (sdm A λa A↦?_)))
     refine sdo (v := iV 2) A (qb rfl rfl (ar_add rfl)) λa A↦?_
     refine sda A λa A↦?_
     refine qa (hK57 _ _ (zh ?_))
     intro K74 hK74
     refine wsk fun K75 hK75 => wsk fun K76 hK76 => wrl ?_
     iterate 2 refine sdm A λa A↦?_
     refine sdo (v := iV 4) A (qy (s := [b0, b1, b2, b3]) Tryz.underlying9 rfl) λa A↦?_
     refine sdo (v := bV true) A dbK λa A↦?_
     refine qa (hK76 _ _ (ct A ?_))
     refine wp_skip (hK75 _ _ (wsk fun K77 hK77 => wp_block (wsk fun K78 hK78 => zj (S := fun w1 => Mg w w1 ([])) (by kernel_rfl) ?_)))
     replace M := M.drew
     refine amv A 0 rfl hP (M.sub ns) λa A↦?_
     refine amv A 1 rfl hP (M.sub ns) λa A↦?_
     refine amv A 2 rfl hP (M.sub ns) λa A↦?_
     refine atk (v := iV 4) A 3 rfl hP (M.sub ns) (λ_ M↦qb rfl rfl (ar_sub rfl)) λa A↦?_
     refine atk (v := .int .u8 226) A 4 rfl hP (M.sub ns) (λ_ M↦qx (s := s7) (i := 4) (b := 226) Tryz.underlying9 rfl rfl rfl rfl) λa A↦?_
     refine amv A 5 rfl hP (M.sub ns) λa A↦?_
     refine amv A 6 rfl hP (M.sub ns) λa A↦?_
     refine amv A 7 rfl hP (M.sub ns) λa A↦?_
     refine atk (v := iV 1) A 8 rfl hP (M.sub ns) (λ_ M↦qb rfl rfl (ar_sub rfl)) λa A↦?_
     refine atk (v := .int .u8 (((b1.toNat : Nat) : Int))) A 9 rfl hP (M.sub ns) (λ_ M↦qx (s := [b0, b1, b2, b3]) (i := 1) (b := b1) Tryz.underlying9 rfl rfl rfl rfl) λa A↦?_
     refine atk (v := bV true) A 10 rfl hP (M.sub ns) (λ_ M↦qb rfl rfl (fun w => (za w).trans (by rw [show ((226 != ((b1.toNat : Nat) : Int))) = true from (bne_iff_ne.2 (by omega))]))) λa A↦?_
     refine qr (by kernel_rfl) ?_
     refine hK78 _ _ (ct A ?_)
     refine wp_goto (And.intro rfl ?_)
     refine wsk fun K79 hK79 => wp_skip (hK79 _ _ (wsk fun K80 hK80 => wrl (sdm A λa A↦?_)))
     refine sdo (v := iV 1) A (qb rfl rfl (ar_add rfl)) λa A↦?_
     refine sda A λa A↦?_
     refine qa (hK80 _ _ (wsk fun K81 hK81 => wrl (sdm A λa A↦?_)))
     refine sdo (v := iV 7) A (qb rfl rfl (ar_add rfl)) λa A↦?_
     refine sda A λa A↦?_
     refine qa (hK81 _ _ (wsk fun K82 hK82 => wrl ?_))
     iterate 3 refine sdm A λa A↦?_
     refine gcl A M (ef rfl rfl) (qjb) fun w84 hb83 M a A => ?_
     refine sdo (v := bV false) A dbK λa A↦?_
     refine sdk (v := bV false) A λa A↦?_
     refine sdm A λa A↦?_
     iterate 4 refine qf A rfl rfl rfl λa A↦?_
     refine sdk (v := bV false) A λa A↦?_
     iterate 2 refine sdm A λa A↦?_
     iterate 5 refine qf A rfl rfl rfl λa A↦?_
     refine sdk (v := bV false) A λa A↦?_
     refine sdm A λa A↦?_
     iterate 4 refine qf A rfl rfl rfl λa A↦?_
     iterate 2 refine sdk (v := bV false) A λa A↦?_
     refine qa (hK82 _ _ (cf A ?_))
     refine wp_skip (hK12 _ _ (zh ?_))
     intro K85 hK85
     refine wsk fun K86 hK86 => wsk fun K87 hK87 => wrl ?_
     iterate 2 refine sdm A λa A↦?_
     refine sdo (v := iV 7) A (qy (s := s7) Tryz.underlying9 rfl) λa A↦?_
     refine sdo (v := bV false) A dbK λa A↦?_
     refine qa (hK87 _ _ (cf A ?_))
     refine wp_exit (hK11 _ _ (wsk fun K88 hK88 => wsk fun K89 hK89 => wrl (sda A λa A↦?_)))
     refine qa (hK89 _ _ (wr1 hret A ?_))
     exact ⟨_, rfl, by rw [show ln7 r = false from decide_eq_false (by omega)]; rfl, M.bel⟩
   ·
    have hb50' := ne_of_beq_false hb50
    refine zg (by kernel_rfl) (zt A 7 rfl rfl rfl rfl (ef rfl rfl) (vv (l := [226, 128, 168]) (b := b3) (by rw [zla, if_neg (by omega), if_neg (by omega), if_neg (by omega)])) ?_)
    rintro _ w91 ⟨rfl, hb90⟩
    replace M := M.call hb90
    refine ⟨_, rfl, (M.sub ns), ?_⟩
    intro a A
    refine atk A 8 rfl hP (M.sub ns) (λ_ M↦qs rfl) λa A↦?_
    refine qr (by kernel_rfl) ?_
    refine hK18 _ _ (wsk fun K92 hK92 => wsk fun K93 hK93 => wrl (sdm A λa A↦?_))
    refine sdo (v := bV true) A dbK λa A↦?_
    refine qa (hK93 _ _ (ct A ?_))
    refine wsk fun K94 hK94 => wrl (sda A λa A↦?_)
    refine qa (hK94 _ _ (wr1 hret A ?_))
    exact ⟨_, rfl, by rw [show ln7 r = false from decide_eq_false (by omega)]; rfl, M.bel⟩
 ·
  have hb17' := bne_eq_false_iff_eq.1 hb17
  refine atk (v := bV false) A 6 rfl hP (M.sub ns) (λ_ M↦qb rfl rfl (fun w => (za w).trans (by rw [hb17]))) λa A↦?_
  refine qr (by kernel_rfl) ?_
  refine hK16 _ _ (cf A ?_)
  refine wp_skip (hK15 _ _ (wsk fun K95 hK95 => wsk fun K96 hK96 => wrl (sda A λa A↦?_)))
  refine qa (hK96 _ _ (wp_block (wp_loop_rounds 9 ?_)))
  refine zh ?_
  intro K97 hK97
  refine wsk fun K98 hK98 => wsk fun K99 hK99 => wrl ?_
  iterate 2 refine sdm A λa A↦?_
  refine sdo (v := iV 4) A (qy (s := [b0, b1, b2, b3]) Tryz.underlying9 rfl) λa A↦?_
  refine sdo (v := bV true) A dbK λa A↦?_
  refine qa (hK99 _ _ (ct A ?_))
  refine wp_skip (hK98 _ _ (wsk fun K100 hK100 => wp_block (wsk fun K101 hK101 => zj (S := fun w1 => Mg w w1 ([])) (by kernel_rfl) ?_)))
  replace M := M.drew
  refine amv A 0 rfl hP (M.sub ns) λa A↦?_
  refine amv A 1 rfl hP (M.sub ns) λa A↦?_
  refine amv A 2 rfl hP (M.sub ns) λa A↦?_
  refine atk (v := iV 2) A 3 rfl hP (M.sub ns) (λ_ M↦qb rfl rfl (ar_sub rfl)) λa A↦?_
  refine atk (v := .int .u8 194) A 4 rfl hP (M.sub ns) (λ_ M↦qx (s := s7) (i := 2) (b := 194) Tryz.underlying9 rfl rfl rfl rfl) λa A↦?_
  refine amv A 5 rfl hP (M.sub ns) λa A↦?_
  refine amv A 6 rfl hP (M.sub ns) λa A↦?_
  refine amv A 7 rfl hP (M.sub ns) λa A↦?_
  refine atk (v := iV 2) A 8 rfl hP (M.sub ns) (λ_ M↦qb rfl rfl (ar_sub rfl)) λa A↦?_
  refine atk (v := .int .u8 (((b2.toNat : Nat) : Int))) A 9 rfl hP (M.sub ns) (λ_ M↦qx (s := [b0, b1, b2, b3]) (i := 2) (b := b2) Tryz.underlying9 rfl rfl rfl rfl) λa A↦?_
  refine atk (v := bV true) A 10 rfl hP (M.sub ns) (λ_ M↦qb rfl rfl (fun w => (za w).trans (by rw [show ((194 != ((b2.toNat : Nat) : Int))) = true from (bne_iff_ne.2 (by omega))]))) λa A↦?_
  refine qr (by kernel_rfl) ?_
  refine hK101 _ _ (ct A ?_)
  refine wp_goto (And.intro rfl ?_)
  refine wsk fun K102 hK102 => wp_skip (hK102 _ _ (wsk fun K103 hK103 => wrl (sdm A λa A↦?_)))
  refine sdo (v := iV 1) A (qb rfl rfl (ar_add rfl)) λa A↦?_
  refine sda A λa A↦?_
  refine qa (hK103 _ _ (wsk fun K104 hK104 => wrl (sdm A λa A↦?_)))
  refine sdo (v := iV 4) A (qb rfl rfl (ar_add rfl)) λa A↦?_
  refine sda A λa A↦?_
  refine qa (hK104 _ _ (wsk fun K105 hK105 => wrl ?_))
  iterate 3 refine sdm A λa A↦?_
  refine gcl A M (ef rfl rfl) (zlc) fun w107 hb106 M a A => ?_
  refine sdo (v := bV false) A dbK λa A↦?_
  refine sdk (v := bV false) A λa A↦?_
  refine sdm A λa A↦?_
  iterate 4 refine qf A rfl rfl rfl λa A↦?_
  refine sdk (v := bV false) A λa A↦?_
  iterate 2 refine sdm A λa A↦?_
  iterate 5 refine qf A rfl rfl rfl λa A↦?_
  refine sdk (v := bV false) A λa A↦?_
  refine sdm A λa A↦?_
  iterate 4 refine qf A rfl rfl rfl λa A↦?_
  iterate 2 refine sdk (v := bV false) A λa A↦?_
  refine qa (hK105 _ _ (cf A ?_))
  refine wp_skip (hK12 _ _ (zh ?_))
  intro K108 hK108
  refine wsk fun K109 hK109 => wsk fun K110 hK110 => wrl ?_
  iterate 2 refine sdm A λa A↦?_
  refine sdo (v := iV 7) A (qy (s := s7) Tryz.underlying9 rfl) λa A↦?_
  refine sdo (v := bV true) A dbK λa A↦?_
  refine qa (hK110 _ _ (ct A ?_))
  refine wp_skip (hK109 _ _ (wp_block (ji 0 rfl ?_)))
  refine wsk fun K111 hK111 => wsk fun K112 hK112 => zj (S := fun w1 => Mg w w1 ([])) (by kernel_rfl) ?_
  replace M := M.drew
  refine amv A 0 rfl hP (M.sub ns) λa A↦?_
  refine amv A 1 rfl hP (M.sub ns) λa A↦?_
  refine atk (v := .int .u8 226) A 2 rfl hP (M.sub ns) (λ_ M↦qx (s := s7) (i := 4) (b := 226) Tryz.underlying9 rfl rfl rfl rfl) λa A↦?_
  refine amv A 3 rfl hP (M.sub ns) λa A↦?_
  refine amv A 4 rfl hP (M.sub ns) λa A↦?_
  refine atk (v := .int .u8 (((b3.toNat : Nat) : Int))) A 5 rfl hP (M.sub ns) (λ_ M↦qx (s := [b0, b1, b2, b3]) (i := 3) (b := b3) Tryz.underlying9 rfl rfl rfl rfl) λa A↦?_
  refine atk (v := bV true) A 6 rfl hP (M.sub ns) (λ_ M↦qb rfl rfl (fun w => (za w).trans (by rw [show ((226 != ((b3.toNat : Nat) : Int))) = true from (bne_iff_ne.2 (by omega))]))) λa A↦?_
  refine qr (by kernel_rfl) ?_
  refine hK112 _ _ (ct A ?_)
  refine wsk fun K113 hK113 => zj (S := fun w1 => Mg w w1 ([])) (by kernel_rfl) ?_
  replace M := M.drew
  refine amv A 0 rfl hP (M.sub ns) λa A↦?_
  refine amv A 1 rfl hP (M.sub ns) λa A↦?_
  refine atk (v := iV 5) A 2 rfl hP (M.sub ns) (λ_ M↦qb rfl rfl (ar_add rfl)) λa A↦?_
  refine atk (v := .string ((tx ([128, 168])))) A 3 rfl hP (M.sub ns) (λ_ M↦ja (s := s7) (p := 5) Tryz.underlying9 rfl rfl rfl (by decide)) λa A↦?_
  refine amv A 4 rfl hP (M.sub ns) λa A↦?_
  refine amv A 5 rfl hP (M.sub ns) λa A↦?_
  refine atk (v := .int .u8 (((b3.toNat : Nat) : Int))) A 6 rfl hP (M.sub ns) (λ_ M↦qx (s := [b0, b1, b2, b3]) (i := 3) (b := b3) Tryz.underlying9 rfl rfl rfl rfl) λa A↦?_
  rcases tf (((((b3.toNat : Nat) : Int)) == 128)) with hb115 | hb115
  ·
   have hb115' := eq_of_beq hb115
   refine zg (by kernel_rfl) (zt A 7 rfl rfl rfl rfl (ef rfl rfl) (vv (l := [128, 168]) (b := b3) (by rw [qrc, if_pos (by omega)])) ?_)
   rintro _ w117 ⟨rfl, hb116⟩
   replace M := M.call hb116
   refine ⟨_, rfl, (M.sub ns), ?_⟩
   intro a A
   refine atk A 8 rfl hP (M.sub ns) (λ_ M↦qs rfl) λa A↦?_
   refine qr (by kernel_rfl) ?_
   refine hK113 _ _ (wsk fun K118 hK118 => wsk fun K119 hK119 => wrl (sdm A λa A↦?_))
   refine sdo (v := bV false) A dbK λa A↦?_
   refine qa (hK119 _ _ (cf A ?_))
   refine wp_skip (hK118 _ _ (wrl ?_))
   iterate 2 refine sdm A λa A↦?_
   refine sdo (v := iV 1) A (qb rfl rfl (ar_add rfl)) λa A↦?_
   refine sdo (v := iV 5) A (qb rfl rfl (ar_add rfl)) λa A↦?_
   refine sda A λa A↦?_
   refine qa (hK111 _ _ (wsk fun K120 hK120 => wsk fun K121 hK121 => wrl (sda A λa A↦?_)))
   refine qa (hK121 _ _ (wp_block (wp_loop_rounds 9 ?_)))
   refine zh ?_
   intro K122 hK122
   refine wsk fun K123 hK123 => wsk fun K124 hK124 => wrl ?_
   iterate 2 refine sdm A λa A↦?_
   refine sdo (v := iV 4) A (qy (s := [b0, b1, b2, b3]) Tryz.underlying9 rfl) λa A↦?_
   refine sdo (v := bV true) A dbK λa A↦?_
   refine qa (hK124 _ _ (ct A ?_))
   refine wp_skip (hK123 _ _ (wsk fun K125 hK125 => wp_block (wsk fun K126 hK126 => zj (S := fun w1 => Mg w w1 ([])) (by kernel_rfl) ?_)))
   replace M := M.drew
   refine amv A 0 rfl hP (M.sub ns) λa A↦?_
   refine amv A 1 rfl hP (M.sub ns) λa A↦?_
   refine amv A 2 rfl hP (M.sub ns) λa A↦?_
   refine atk (v := iV 4) A 3 rfl hP (M.sub ns) (λ_ M↦qb rfl rfl (ar_sub rfl)) λa A↦?_
   refine atk (v := .int .u8 226) A 4 rfl hP (M.sub ns) (λ_ M↦qx (s := s7) (i := 4) (b := 226) Tryz.underlying9 rfl rfl rfl rfl) λa A↦?_
   refine amv A 5 rfl hP (M.sub ns) λa A↦?_
   refine amv A 6 rfl hP (M.sub ns) λa A↦?_
   refine amv A 7 rfl hP (M.sub ns) λa A↦?_
   refine atk (v := iV 2) A 8 rfl hP (M.sub ns) (λ_ M↦qb rfl rfl (ar_sub rfl)) λa A↦?_
   refine atk (v := .int .u8 (((b2.toNat : Nat) : Int))) A 9 rfl hP (M.sub ns) (λ_ M↦qx (s := [b0, b1, b2, b3]) (i := 2) (b := b2) Tryz.underlying9 rfl rfl rfl rfl) λa A↦?_
   refine atk (v := bV true) A 10 rfl hP (M.sub ns) (λ_ M↦qb rfl rfl (fun w => (za w).trans (by rw [show ((226 != ((b2.toNat : Nat) : Int))) = true from (bne_iff_ne.2 (by omega))]))) λa A↦?_
   refine qr (by kernel_rfl) ?_
   refine hK126 _ _ (ct A ?_)
   refine wp_goto (And.intro rfl ?_)
   refine wsk fun K127 hK127 => wp_skip (hK127 _ _ (wsk fun K128 hK128 => wrl (sdm A λa A↦?_)))
   refine sdo (v := iV 2) A (qb rfl rfl (ar_add rfl)) λa A↦?_
   refine sda A λa A↦?_
   refine qa (hK128 _ _ (wsk fun K129 hK129 => wrl (sdm A λa A↦?_)))
   refine sdo (v := iV 6) A (qb rfl rfl (ar_add rfl)) λa A↦?_
   refine sda A λa A↦?_
   refine qa (hK129 _ _ (wsk fun K130 hK130 => wrl ?_))
   iterate 3 refine sdm A λa A↦?_
   refine gcl A M (ef rfl rfl) (zdc) fun w132 hb131 M a A => ?_
   refine sdo (v := bV false) A dbK λa A↦?_
   refine sdk (v := bV false) A λa A↦?_
   refine sdm A λa A↦?_
   iterate 4 refine qf A rfl rfl rfl λa A↦?_
   refine sdk (v := bV false) A λa A↦?_
   iterate 2 refine sdm A λa A↦?_
   iterate 5 refine qf A rfl rfl rfl λa A↦?_
   refine sdk (v := bV false) A λa A↦?_
   refine sdm A λa A↦?_
   iterate 4 refine qf A rfl rfl rfl λa A↦?_
   iterate 2 refine sdk (v := bV false) A λa A↦?_
   refine qa (hK130 _ _ (cf A ?_))
   refine wp_skip (hK108 _ _ (zh ?_))
   intro K133 hK133
   refine wsk fun K134 hK134 => wsk fun K135 hK135 => wrl ?_
   iterate 2 refine sdm A λa A↦?_
   refine sdo (v := iV 7) A (qy (s := s7) Tryz.underlying9 rfl) λa A↦?_
   refine sdo (v := bV true) A dbK λa A↦?_
   refine qa (hK135 _ _ (ct A ?_))
   refine wp_skip (hK134 _ _ (wp_block (ji 0 rfl ?_)))
   refine wsk fun K136 hK136 => wsk fun K137 hK137 => zj (S := fun w1 => Mg w w1 ([])) (by kernel_rfl) ?_
   replace M := M.drew
   refine amv A 0 rfl hP (M.sub ns) λa A↦?_
   refine amv A 1 rfl hP (M.sub ns) λa A↦?_
   refine atk (v := .int .u8 168) A 2 rfl hP (M.sub ns) (λ_ M↦qx (s := s7) (i := 6) (b := 168) Tryz.underlying9 rfl rfl rfl rfl) λa A↦?_
   refine amv A 3 rfl hP (M.sub ns) λa A↦?_
   refine amv A 4 rfl hP (M.sub ns) λa A↦?_
   refine atk (v := .int .u8 (((b3.toNat : Nat) : Int))) A 5 rfl hP (M.sub ns) (λ_ M↦qx (s := [b0, b1, b2, b3]) (i := 3) (b := b3) Tryz.underlying9 rfl rfl rfl rfl) λa A↦?_
   refine atk (v := bV true) A 6 rfl hP (M.sub ns) (λ_ M↦qb rfl rfl (fun w => (za w).trans (by rw [show ((168 != ((b3.toNat : Nat) : Int))) = true from (bne_iff_ne.2 (by omega))]))) λa A↦?_
   refine qr (by kernel_rfl) ?_
   refine hK137 _ _ (ct A ?_)
   refine wsk fun K138 hK138 => zj (S := fun w1 => Mg w w1 ([])) (by kernel_rfl) ?_
   replace M := M.drew
   refine amv A 0 rfl hP (M.sub ns) λa A↦?_
   refine amv A 1 rfl hP (M.sub ns) λa A↦?_
   refine atk (v := iV 7) A 2 rfl hP (M.sub ns) (λ_ M↦qb rfl rfl (ar_add rfl)) λa A↦?_
   refine atk (v := .string ((tx ([])))) A 3 rfl hP (M.sub ns) (λ_ M↦ja (s := s7) (p := 7) Tryz.underlying9 rfl rfl rfl (by decide)) λa A↦?_
   refine amv A 4 rfl hP (M.sub ns) λa A↦?_
   refine amv A 5 rfl hP (M.sub ns) λa A↦?_
   refine atk (v := .int .u8 (((b3.toNat : Nat) : Int))) A 6 rfl hP (M.sub ns) (λ_ M↦qx (s := [b0, b1, b2, b3]) (i := 3) (b := b3) Tryz.underlying9 rfl rfl rfl rfl) λa A↦?_
   refine zg (by kernel_rfl) (zt A 7 rfl rfl rfl rfl (ef rfl rfl) (vv (l := []) (b := b3) (by rw [zdb])) ?_)
   rintro _ w140 ⟨rfl, hb139⟩
   replace M := M.call hb139
   refine ⟨_, rfl, (M.sub ns), ?_⟩
   intro a A
   refine atk A 8 rfl hP (M.sub ns) (λ_ M↦qs rfl) λa A↦?_
   refine qr (by kernel_rfl) ?_
   refine hK138 _ _ (wsk fun K141 hK141 => wsk fun K142 hK142 => wrl (sdm A λa A↦?_))
   refine sdo (v := bV true) A dbK λa A↦?_
   refine qa (hK142 _ _ (ct A ?_))
   refine wsk fun K143 hK143 => wrl (sda A λa A↦?_)
   refine qa (hK143 _ _ (wr1 hret A ?_))
   exact ⟨_, rfl, by rw [show ln7 r = false from decide_eq_false (by omega)]; rfl, M.bel⟩
  ·
   have hb115' := ne_of_beq_false hb115
   rcases tf (((((b3.toNat : Nat) : Int)) == 168)) with hb145 | hb145
   ·
    have hb145' := eq_of_beq hb145
    refine zg (by kernel_rfl) (zt A 7 rfl rfl rfl rfl (ef rfl rfl) (vv (l := [128, 168]) (b := b3) (by rw [qrc, if_neg (by omega), if_pos (by omega)])) ?_)
    rintro _ w147 ⟨rfl, hb146⟩
    replace M := M.call hb146
    refine ⟨_, rfl, (M.sub ns), ?_⟩
    intro a A
    refine atk A 8 rfl hP (M.sub ns) (λ_ M↦qs rfl) λa A↦?_
    refine qr (by kernel_rfl) ?_
    refine hK113 _ _ (wsk fun K148 hK148 => wsk fun K149 hK149 => wrl (sdm A λa A↦?_))
    refine sdo (v := bV false) A dbK λa A↦?_
    refine qa (hK149 _ _ (cf A ?_))
    refine wp_skip (hK148 _ _ (wrl ?_))
    iterate 2 refine sdm A λa A↦?_
    refine sdo (v := iV 2) A (qb rfl rfl (ar_add rfl)) λa A↦?_
    refine sdo (v := iV 6) A (qb rfl rfl (ar_add rfl)) λa A↦?_
    refine sda A λa A↦?_
    refine qa (hK111 _ _ (wsk fun K150 hK150 => wsk fun K151 hK151 => wrl (sda A λa A↦?_)))
    refine qa (hK151 _ _ (wp_block (wp_loop_rounds 9 ?_)))
    refine zh ?_
    intro K152 hK152
    refine wsk fun K153 hK153 => wsk fun K154 hK154 => wrl ?_
    iterate 2 refine sdm A λa A↦?_
    refine sdo (v := iV 4) A (qy (s := [b0, b1, b2, b3]) Tryz.underlying9 rfl) λa A↦?_
    refine sdo (v := bV true) A dbK λa A↦?_
    refine qa (hK154 _ _ (ct A ?_))
    refine wp_skip (hK153 _ _ (wsk fun K155 hK155 => wp_block (wsk fun K156 hK156 => zj (S := fun w1 => Mg w w1 ([])) (by kernel_rfl) ?_)))
    replace M := M.drew
    refine amv A 0 rfl hP (M.sub ns) λa A↦?_
    refine amv A 1 rfl hP (M.sub ns) λa A↦?_
    refine amv A 2 rfl hP (M.sub ns) λa A↦?_
    refine atk (v := iV 5) A 3 rfl hP (M.sub ns) (λ_ M↦qb rfl rfl (ar_sub rfl)) λa A↦?_
    refine atk (v := .int .u8 128) A 4 rfl hP (M.sub ns) (λ_ M↦qx (s := s7) (i := 5) (b := 128) Tryz.underlying9 rfl rfl rfl rfl) λa A↦?_
    refine amv A 5 rfl hP (M.sub ns) λa A↦?_
    refine amv A 6 rfl hP (M.sub ns) λa A↦?_
    refine amv A 7 rfl hP (M.sub ns) λa A↦?_
    refine atk (v := iV 2) A 8 rfl hP (M.sub ns) (λ_ M↦qb rfl rfl (ar_sub rfl)) λa A↦?_
    refine atk (v := .int .u8 (((b2.toNat : Nat) : Int))) A 9 rfl hP (M.sub ns) (λ_ M↦qx (s := [b0, b1, b2, b3]) (i := 2) (b := b2) Tryz.underlying9 rfl rfl rfl rfl) λa A↦?_
    rcases tf ((128 != ((b2.toNat : Nat) : Int))) with hb157 | hb157
    ·
     have hb157' := bne_iff_ne.1 hb157
     refine atk (v := bV true) A 10 rfl hP (M.sub ns) (λ_ M↦qb rfl rfl (fun w => (za w).trans (by rw [hb157]))) λa A↦?_
     refine qr (by kernel_rfl) ?_
     refine hK156 _ _ (ct A ?_)
     refine wp_goto (And.intro rfl ?_)
     refine wsk fun K158 hK158 => wp_skip (hK158 _ _ (wsk fun K159 hK159 => wrl (sdm A λa A↦?_)))
     refine sdo (v := iV 2) A (qb rfl rfl (ar_add rfl)) λa A↦?_
     refine sda A λa A↦?_
     refine qa (hK159 _ _ (wsk fun K160 hK160 => wrl (sdm A λa A↦?_)))
     refine sdo (v := iV 7) A (qb rfl rfl (ar_add rfl)) λa A↦?_
     refine sda A λa A↦?_
     refine qa (hK160 _ _ (wsk fun K161 hK161 => wrl ?_))
     iterate 3 refine sdm A λa A↦?_
     refine gcl A M (ef rfl rfl) (qjb) fun w163 hb162 M a A => ?_
     refine sdo (v := bV false) A dbK λa A↦?_
     refine sdk (v := bV false) A λa A↦?_
     refine sdm A λa A↦?_
     iterate 4 refine qf A rfl rfl rfl λa A↦?_
     refine sdk (v := bV false) A λa A↦?_
     iterate 2 refine sdm A λa A↦?_
     iterate 5 refine qf A rfl rfl rfl λa A↦?_
     refine sdk (v := bV false) A λa A↦?_
     refine sdm A λa A↦?_
     iterate 4 refine qf A rfl rfl rfl λa A↦?_
     iterate 2 refine sdk (v := bV false) A λa A↦?_
     refine qa (hK161 _ _ (cf A ?_))
     refine wp_skip (hK108 _ _ (zh ?_))
     intro K164 hK164
     refine wsk fun K165 hK165 => wsk fun K166 hK166 => wrl ?_
     iterate 2 refine sdm A λa A↦?_
     refine sdo (v := iV 7) A (qy (s := s7) Tryz.underlying9 rfl) λa A↦?_
     refine sdo (v := bV false) A dbK λa A↦?_
     refine qa (hK166 _ _ (cf A ?_))
     refine wp_exit (hK11 _ _ (wsk fun K167 hK167 => wsk fun K168 hK168 => wrl (sda A λa A↦?_)))
     refine qa (hK168 _ _ (wr1 hret A ?_))
     exact ⟨_, rfl, by rw [show ln7 r = false from decide_eq_false (by omega)]; rfl, M.bel⟩
    ·
     have hb157' := bne_eq_false_iff_eq.1 hb157
     refine atk (v := bV false) A 10 rfl hP (M.sub ns) (λ_ M↦qb rfl rfl (fun w => (za w).trans (by rw [hb157]))) λa A↦?_
     refine qr (by kernel_rfl) ?_
     refine hK156 _ _ (cf A ?_)
     refine wp_skip (hK155 _ _ (wrl (sdm A λa A↦?_)))
     refine sdo (v := iV 2) A (qb rfl rfl (ar_add rfl)) λa A↦?_
     refine sda A λa A↦?_
     refine qa (hK152 _ _ (zh ?_))
     intro K169 hK169
     refine wsk fun K170 hK170 => wsk fun K171 hK171 => wrl ?_
     iterate 2 refine sdm A λa A↦?_
     refine sdo (v := iV 4) A (qy (s := [b0, b1, b2, b3]) Tryz.underlying9 rfl) λa A↦?_
     refine sdo (v := bV true) A dbK λa A↦?_
     refine qa (hK171 _ _ (ct A ?_))
     refine wp_skip (hK170 _ _ (wsk fun K172 hK172 => wp_block (wsk fun K173 hK173 => zj (S := fun w1 => Mg w w1 ([])) (by kernel_rfl) ?_)))
     replace M := M.drew
     refine amv A 0 rfl hP (M.sub ns) λa A↦?_
     refine amv A 1 rfl hP (M.sub ns) λa A↦?_
     refine amv A 2 rfl hP (M.sub ns) λa A↦?_
     refine atk (v := iV 4) A 3 rfl hP (M.sub ns) (λ_ M↦qb rfl rfl (ar_sub rfl)) λa A↦?_
     refine atk (v := .int .u8 226) A 4 rfl hP (M.sub ns) (λ_ M↦qx (s := s7) (i := 4) (b := 226) Tryz.underlying9 rfl rfl rfl rfl) λa A↦?_
     refine amv A 5 rfl hP (M.sub ns) λa A↦?_
     refine amv A 6 rfl hP (M.sub ns) λa A↦?_
     refine amv A 7 rfl hP (M.sub ns) λa A↦?_
     refine atk (v := iV 1) A 8 rfl hP (M.sub ns) (λ_ M↦qb rfl rfl (ar_sub rfl)) λa A↦?_
     refine atk (v := .int .u8 (((b1.toNat : Nat) : Int))) A 9 rfl hP (M.sub ns) (λ_ M↦qx (s := [b0, b1, b2, b3]) (i := 1) (b := b1) Tryz.underlying9 rfl rfl rfl rfl) λa A↦?_
     refine atk (v := bV true) A 10 rfl hP (M.sub ns) (λ_ M↦qb rfl rfl (fun w => (za w).trans (by rw [show ((226 != ((b1.toNat : Nat) : Int))) = true from (bne_iff_ne.2 (by omega))]))) λa A↦?_
     refine qr (by kernel_rfl) ?_
     refine hK173 _ _ (ct A ?_)
     refine wp_goto (And.intro rfl ?_)
     refine wsk fun K174 hK174 => wp_skip (hK174 _ _ (wsk fun K175 hK175 => wrl (sdm A λa A↦?_)))
     refine sdo (v := iV 2) A (qb rfl rfl (ar_add rfl)) λa A↦?_
     refine sda A λa A↦?_
     refine qa (hK175 _ _ (wsk fun K176 hK176 => wrl (sdm A λa A↦?_)))
     refine sdo (v := iV 7) A (qb rfl rfl (ar_add rfl)) λa A↦?_
     refine sda A λa A↦?_
     refine qa (hK176 _ _ (wsk fun K177 hK177 => wrl ?_))
     iterate 3 refine sdm A λa A↦?_
     refine gcl A M (ef rfl rfl) (qjb) fun w179 hb178 M a A => ?_
     refine sdo (v := bV false) A dbK λa A↦?_
     refine sdk (v := bV false) A λa A↦?_
     refine sdm A λa A↦?_
     iterate 4 refine qf A rfl rfl rfl λa A↦?_
     refine sdk (v := bV false) A λa A↦?_
     iterate 2 refine sdm A λa A↦?_
     iterate 5 refine qf A rfl rfl rfl λa A↦?_
     refine sdk (v := bV false) A λa A↦?_
     refine sdm A λa A↦?_
     iterate 4 refine qf A rfl rfl rfl λa A↦?_
     iterate 2 refine sdk (v := bV false) A λa A↦?_
     refine qa (hK177 _ _ (cf A ?_))
     refine wp_skip (hK108 _ _ (zh ?_))
     intro K180 hK180
     refine wsk fun K181 hK181 => wsk fun K182 hK182 => wrl ?_
     iterate 2 refine sdm A λa A↦?_
     refine sdo (v := iV 7) A (qy (s := s7) Tryz.underlying9 rfl) λa A↦?_
     refine sdo (v := bV false) A dbK λa A↦?_
     refine qa (hK182 _ _ (cf A ?_))
     refine wp_exit (hK11 _ _ (wsk fun K183 hK183 => wsk fun K184 hK184 => wrl (sda A λa A↦?_)))
     refine qa (hK184 _ _ (wr1 hret A ?_))
     exact ⟨_, rfl, by rw [show ln7 r = false from decide_eq_false (by omega)]; rfl, M.bel⟩
   ·
    have hb145' := ne_of_beq_false hb145
    refine zg (by kernel_rfl) (zt A 7 rfl rfl rfl rfl (ef rfl rfl) (vv (l := [128, 168]) (b := b3) (by rw [qrc, if_neg (by omega), if_neg (by omega)])) ?_)
    rintro _ w186 ⟨rfl, hb185⟩
    replace M := M.call hb185
    refine ⟨_, rfl, (M.sub ns), ?_⟩
    intro a A
    refine atk A 8 rfl hP (M.sub ns) (λ_ M↦qs rfl) λa A↦?_
    refine qr (by kernel_rfl) ?_
    refine hK113 _ _ (wsk fun K187 hK187 => wsk fun K188 hK188 => wrl (sdm A λa A↦?_))
    refine sdo (v := bV true) A dbK λa A↦?_
    refine qa (hK188 _ _ (ct A ?_))
    refine wsk fun K189 hK189 => wrl (sda A λa A↦?_)
    refine qa (hK189 _ _ (wr1 hret A ?_))
    exact ⟨_, rfl, by rw [show ln7 r = false from decide_eq_false (by omega)]; rfl, M.bel⟩
theorem zxb {w : World} {r : Int} (h : C.OkR r) : Calls Tryz.prog 71 #[.string (tx s7), .int .i32 r] w fun e w' => ∃ v : Int, e = .returned (iV v) ∧ decide (0 ≤ v) = ln7 r ∧ Below w.heap.size w w' := by
 by_cases h128 : r < 128
 ·
  have h0 : 0 ≤ r := by unfold C.OkR at h; omega
  refine (Tryz.strings_IndexRune_ascii (tx s7) r w h0 h128).mono ?_
  rintro e w' ⟨rfl, rfl⟩
  have := C.ix7 r.toNat (by omega)
  rw [Int.toNat_of_nonneg h0] at this
  exact ⟨_, rfl, this, Below.refl _ _⟩
 ·
  by_cases he : r = 65533
  ·
   subst he
   refine (C.irune_err7 w).mono ?_
   rintro e w' ⟨rfl, hb⟩
   exact ⟨_, rfl, by decide, hb⟩
  ·
   have hv := h.valid
   unfold C.OkR at h
   by_cases h2 : r ≤ 2047
   ·
    exact jae (by omega) h2 he hv (qxg hv (by unfold Lib.encodeRune; rw [Lib.encodeRuneZ_two (by omega) h2]; rfl)) (kh (x := 192 + r / 64) (by omega) (by omega)) (kh (x := 128 + r % 64) (by omega) (by omega))
   ·
    by_cases h3 : r ≤ 65535
    ·
     exact jaf (by omega) h3 he hv (qxg hv (by unfold Lib.encodeRune; rw [Lib.encodeRuneZ_three (by omega)]; rfl)) (kh (x := 224 + r / 4096) (by omega) (by omega)) (kh (x := 128 + r / 64 % 64) (by omega) (by omega)) (kh (x := 128 + r % 64) (by omega) (by omega))
    ·
     exact jag (by omega) (by omega) he hv (qxg hv (by unfold Lib.encodeRune; rw [Lib.encodeRuneZ_four (by omega) (by omega)]; rfl)) (kh (x := 240 + r / 262144) (by omega) (by omega)) (kh (x := 128 + r / 4096 % 64) (by omega) (by omega)) (kh (x := 128 + r / 64 % 64) (by omega) (by omega)) (kh (x := 128 + r % 64) (by omega) (by omega))
def lnX (l : List UInt8) : Nat := C.lnN l.length l
theorem zdd {w : World} {l : List UInt8} (hl : l.length < 4294967281) : Calls Tryz.prog 51 #[.string (tx l), .string (tx s7)] w fun e w' => (∃ v : Int, e = .returned (iV v) ∧ (v = ((lnX l : Nat) : Int) ∧ lnX l < l.length ∨ v = -1 ∧ lnX l = l.length)) ∧ Below w.heap.size w w' := by
 have := C.iany7 (tx l) (fun r w h => zxb h) w (by rw [xg]; exact hl)
 rwa [xg, xi] at this
theorem zxc {w : World} {l : List UInt8} (hl : l.length < 4294967281) (h : decide (lnX l < l.length) = true) : Calls Tryz.prog 51 #[.string (tx l), .string (tx s7)] w fun e w' => e = .returned (iV ((lnX l : Nat) : Int)) ∧ Below w.heap.size w w' := (zdd hl).mono fun e w' h1 => by
 obtain ⟨⟨v, rfl, h2 | h2⟩, hb⟩ := h1
 ·
  exact ⟨by rw [h2.1], hb⟩
 ·
  exact absurd (of_decide_eq_true h) (by omega)
theorem zxd {w : World} {l : List UInt8} (hl : l.length < 4294967281) (h : decide (lnX l < l.length) = false) : Calls Tryz.prog 51 #[.string (tx l), .string (tx s7)] w fun e w' => e = .returned (iV (-1)) ∧ lnX l = l.length ∧ Below w.heap.size w w' := (zdd hl).mono fun e w' h1 => by
 obtain ⟨⟨v, rfl, h2 | h2⟩, hb⟩ := h1
 ·
  exact absurd h2.2 (of_decide_eq_false h)
 ·
  exact ⟨by rw [h2.1], h2.2, hb⟩
theorem RdH_is1_3 : Is1 Tryz.prog 3 := ⟨⟨_, Tryz.underlying3, rfl⟩, by kernel_rfl⟩
theorem RdH_fld_50_1 : FieldAt Tryz.prog 50 1 1 := ⟨_, _, Tryz.underlying50, rfl, rfl, by kernel_rfl⟩
theorem qnh {w0 w : World} {g p : Nat} {lg : Bool} {L : List UInt8} {T : List Ck} (hp : p ≤ L.length) (hl : L.length ≤ 1000000000) (hM0 : Mg w0 w (.obj g (rC L p lg) :: T)) : Calls Tryz.prog 31 #[pA g 0] w fun e w' => e = .returned (.tuple #[]) ∧ Mg w0 w' (.obj g (rC L (p + lnX (L.drop p)) lg) :: T) := by
 have M : Mg w0 w (.obj g (rC L p lg) :: T) := hM0
 refine qw (l := [(0, pA g 0)]) Tryz.func31 rfl Tryz.ntmps31 rfl rfl ?_
 intro Q hret hnorm hP a A
 refine wsk fun K1 hK1 => wrl (sdm A λa A↦?_)
 refine sct A (ef rfl rfl) (xj (p := p) (L := L) (T := (T)) (by omega) M) ?_
 rintro _ w3 ⟨rfl, hM2⟩
 replace M : Mg w0 w3 (.obj g (rC L p lg) :: T) := hM2
 refine ⟨_, rfl, ?_⟩
 intro a A
 rcases tf (decide (lnX (L.drop p) < (L.drop p).length)) with hb5 | hb5
 ·
  have hb5' := of_decide_eq_true hb5
  refine sct A (ef rfl rfl) (zxc (l := L.drop p) (by rw [List.length_drop]; omega) hb5) ?_
  rintro _ w7 ⟨rfl, hb6⟩
  have hlx := of_decide_eq_true hb5
  rw [List.length_drop] at hlx
  replace M := M.call hb6
  refine ⟨_, rfl, ?_⟩
  intro a A
  refine sda A λa A↦?_
  refine qa (hK1 _ _ (wsk fun K8 hK8 => wsk fun K9 hK9 => wrl (sdm A λa A↦?_)))
  refine sdo (v := bV false) A (qb rfl rfl (fun w => (jk w).trans (by rw [show (decide (((lnX (L.drop p) : Nat) : Int) < 0)) = false from (decide_eq_false (by omega))]))) λa A↦?_
  refine qa (hK9 _ _ (cf A ?_))
  refine wp_skip (hK8 _ _ (wrl (sdm A λa A↦?_)))
  refine sdo A (jb rfl) λa A↦?_
  refine sdo (v := pA g 1) A (qe RdH_fld_50_1 rfl rfl) λa A↦?_
  refine sdo A (zq M RdH_is1_3 rfl 0 rfl rfl) λa A↦?_
  refine sdm A λa A↦?_
  refine sdo (v := iV (((p + lnX (L.drop p) : Nat) : Int))) A (qb rfl rfl (ar_add ((in_i64 (by omega) (by omega)).trans (by omega)))) λa A↦?_
  refine sdo A (jb rfl) λa A↦?_
  refine sdo (v := pA g 1) A (qe RdH_fld_50_1 rfl rfl) λa A↦?_
  refine zp (L' := (.obj g (rC L (p + lnX (L.drop p)) lg) :: T)) A M rfl rfl (ze rfl rfl rfl (by kernel_rfl) M 0 rfl rfl rfl) 0 rfl rfl rfl ?_
  intro w10 M
  refine qa (hnorm _ _ (yr (v := .tuple #[]) A rfl .nil rfl ?_))
  exact ⟨rfl, M⟩
 ·
  have hb5' := of_decide_eq_false hb5
  refine sct A (ef rfl rfl) (zxd (l := L.drop p) (by rw [List.length_drop]; omega) hb5) ?_
  rintro _ w12 ⟨rfl, hlx, hb11⟩
  have hdl : (L.drop p).length = L.length - p := List.length_drop
  replace M := M.call hb11
  refine ⟨_, rfl, ?_⟩
  intro a A
  refine sda A λa A↦?_
  refine qa (hK1 _ _ (wsk fun K13 hK13 => wsk fun K14 hK14 => wrl (sdm A λa A↦?_)))
  refine sdo (v := bV true) A (qb rfl rfl (fun w => (jk w).trans (by rw [show (decide ((-1) < 0)) = true from rfl]))) λa A↦?_
  refine qa (hK14 _ _ (ct A ?_))
  refine wrl (sdm A λa A↦?_)
  refine sct A (ef rfl rfl) (xj (p := p) (L := L) (T := (T)) (by omega) M) ?_
  rintro _ w16 ⟨rfl, hM15⟩
  replace M : Mg w0 w16 (.obj g (rC L p lg) :: T) := hM15
  refine ⟨_, rfl, ?_⟩
  intro a A
  refine sdo (v := iV ((((L.drop p).length : Nat) : Int))) A (qy (s := L.drop p) Tryz.underlying9 rfl) λa A↦?_
  refine sda A λa A↦?_
  refine qa (hK13 _ _ (wrl (sdm A λa A↦?_)))
  refine sdo A (jb rfl) λa A↦?_
  refine sdo (v := pA g 1) A (qe RdH_fld_50_1 rfl rfl) λa A↦?_
  refine sdo A (zq M RdH_is1_3 rfl 0 rfl rfl) λa A↦?_
  refine sdm A λa A↦?_
  refine sdo (v := iV (((p + (L.drop p).length : Nat) : Int))) A (qb rfl rfl (ar_add ((in_i64 (by omega) (by omega)).trans (by omega)))) λa A↦?_
  refine sdo A (jb rfl) λa A↦?_
  refine sdo (v := pA g 1) A (qe RdH_fld_50_1 rfl rfl) λa A↦?_
  refine zp (L' := (.obj g (rC L (p + (L.drop p).length) lg) :: T)) A M rfl rfl (ze rfl rfl rfl (by kernel_rfl) M 0 rfl rfl rfl) 0 rfl rfl rfl ?_
  intro w17 M
  refine qa (hnorm _ _ (yr (v := .tuple #[]) A rfl .nil rfl ?_))
  rw [← hlx] at M
  exact ⟨rfl, M⟩
end Go.Proofs.YtclkfideaameoaaGreatDoor.G
namespace Go.Proofs
open Go.Shelf
def Tryz.laysC245_ren : Go.Shelf.Ren := ⟨fun | 245 => 139 | 279 => 158 | 280 => 159 | 281 => 160 | 282 => 161 | 316 => 123 | 171 => 179 | 205 => 178 | 243 => 191 | 246 => 196 | 283 => 197 | 284 => 198 | 285 => 199 | 286 => 200 | 129 => 202 | 317 => 201 | 318 => 203 | 319 => 204 | 320 => 205 | 337 => 206 | 338 => 207 | n => n, fun | 9 => 9 | 3 => 3 | 75 => 85 | 167 => 168 | 4 => 4 | 168 => 170 | 210 => 182 | 37 => 27 | 0 => 0 | 127 => 114 | 145 => 195 | 143 => 193 | 2 => 2 | 171 => 200 | 53 => 94 | 5 => 5 | 173 => 203 | 212 => 206 | 51 => 99 | 20 => 20 | 213 => 207 | 46 => 71 | 232 => 209 | 233 => 210 | 80 => 51 | n => n, fun | 15 => 3 | 16 => 4 | 17 => 6 | 18 => 7 | 19 => 8 | n => n⟩
theorem Tryz.laysC245 : Go.Proofs.LaysC.n245 Tryz.prog Tryz.laysC245_ren := {
  mixed := by kernel_rfl
  f129 := Tryz.func202.trans (congrArg some (by kernel_rfl))
  f171 := Tryz.func179.trans (congrArg some (by kernel_rfl))
  f205 := Tryz.func178.trans (congrArg some (by kernel_rfl))
  f243 := Tryz.func191.trans (congrArg some (by kernel_rfl))
  f245 := Tryz.func139.trans (congrArg some (by kernel_rfl))
  f246 := Tryz.func196.trans (congrArg some (by kernel_rfl))
  f279 := Tryz.func158.trans (congrArg some (by kernel_rfl))
  f280 := Tryz.func159.trans (congrArg some (by kernel_rfl))
  f281 := Tryz.func160.trans (congrArg some (by kernel_rfl))
  f282 := Tryz.func161.trans (congrArg some (by kernel_rfl))
  f283 := Tryz.func197.trans (congrArg some (by kernel_rfl))
  f284 := Tryz.func198.trans (congrArg some (by kernel_rfl))
  f285 := Tryz.func199.trans (congrArg some (by kernel_rfl))
  f286 := Tryz.func200.trans (congrArg some (by kernel_rfl))
  f316 := Tryz.func123.trans (congrArg some (by kernel_rfl))
  f317 := Tryz.func201.trans (congrArg some (by kernel_rfl))
  f318 := Tryz.func203.trans (congrArg some (by kernel_rfl))
  f319 := Tryz.func204.trans (congrArg some (by kernel_rfl))
  f320 := Tryz.func205.trans (congrArg some (by kernel_rfl))
  f337 := Tryz.func206.trans (congrArg some (by kernel_rfl))
  f338 := Tryz.func207.trans (congrArg some (by kernel_rfl))
  t0 := Tryz.underlying0
  a0 := Tryz.isAgg0
  z0 := Tryz.sizeOf0
  v0 := Tryz.zeroValue0
  t2 := Tryz.underlying2
  a2 := Tryz.isAgg2
  z2 := Tryz.sizeOf2
  v2 := Tryz.zeroValue2
  t3 := Tryz.underlying3
  a3 := Tryz.isAgg3
  z3 := Tryz.sizeOf3
  v3 := Tryz.zeroValue3
  t4 := Tryz.underlying4
  a4 := Tryz.isAgg4
  z4 := Tryz.sizeOf4
  v4 := Tryz.zeroValue4
  t5 := Tryz.underlying5
  a5 := Tryz.isAgg5
  z5 := Tryz.sizeOf5
  v5 := Tryz.zeroValue5
  t9 := Tryz.underlying9
  a9 := Tryz.isAgg9
  z9 := Tryz.sizeOf9
  v9 := Tryz.zeroValue9
  t20 := Tryz.underlying20
  a20 := Tryz.isAgg20
  z20 := Tryz.sizeOf20
  v20 := Tryz.zeroValue20
  t37 := Tryz.underlying27
  a37 := Tryz.isAgg27
  z37 := Tryz.sizeOf27
  v37 := Tryz.zeroValue27
  t46 := Tryz.underlying71
  a46 := Tryz.isAgg71
  z46 := Tryz.sizeOf71
  v46 := Tryz.zeroValue71
  t51 := Tryz.underlying99
  a51 := Tryz.isAgg99
  z51 := Tryz.sizeOf99
  v51 := Tryz.zeroValue99
  t53 := Tryz.underlying94
  a53 := Tryz.isAgg94
  z53 := Tryz.sizeOf94
  v53 := Tryz.zeroValue94
  t75 := Tryz.underlying85
  a75 := Tryz.isAgg85
  z75 := Tryz.sizeOf85
  v75 := Tryz.zeroValue85
  t127 := Tryz.underlying114
  a127 := Tryz.isAgg114
  z127 := Tryz.sizeOf114
  v127 := Tryz.zeroValue114
  t143 := Tryz.underlying193
  a143 := Tryz.isAgg193
  z143 := Tryz.sizeOf193
  v143 := Tryz.zeroValue193
  t145 := Tryz.underlying195
  a145 := Tryz.isAgg195
  z145 := Tryz.sizeOf195
  v145 := Tryz.zeroValue195
  t167 := Tryz.underlying168
  a167 := Tryz.isAgg168
  z167 := Tryz.sizeOf168
  v167 := Tryz.zeroValue168
  t168 := Tryz.underlying170
  a168 := Tryz.isAgg170
  z168 := Tryz.sizeOf170
  v168 := Tryz.zeroValue170
  t171 := Tryz.underlying200
  a171 := Tryz.isAgg200
  z171 := Tryz.sizeOf200
  v171 := Tryz.zeroValue200
  t173 := Tryz.underlying203
  a173 := Tryz.isAgg203
  z173 := Tryz.sizeOf203
  v173 := Tryz.zeroValue203
  t210 := Tryz.underlying182
  a210 := Tryz.isAgg182
  z210 := Tryz.sizeOf182
  v210 := Tryz.zeroValue182
  t212 := Tryz.underlying206
  a212 := Tryz.isAgg206
  z212 := Tryz.sizeOf206
  v212 := Tryz.zeroValue206
  t213 := Tryz.underlying207
  a213 := Tryz.isAgg207
  z213 := Tryz.sizeOf207
  t232 := Tryz.underlying209
  a232 := Tryz.isAgg209
  z232 := Tryz.sizeOf209
  v232 := Tryz.zeroValue209
  t233 := Tryz.underlying210
  a233 := Tryz.isAgg210
  z233 := Tryz.sizeOf210
  v233 := Tryz.zeroValue210
  g15 := by kernel_rfl
  g16 := by kernel_rfl
  g17 := by kernel_rfl
  g18 := by kernel_rfl
  g19 := by kernel_rfl
  t80 := Tryz.underlying51
  a80 := Tryz.isAgg51
  z80 := Tryz.sizeOf51
  v80 := Tryz.zeroValue51
  i0 := by kernel_rfl
  i2 := by kernel_rfl
  i3 := by kernel_rfl
  i4 := by kernel_rfl
  i5 := by kernel_rfl
  i9 := by kernel_rfl
  i20 := by kernel_rfl
  i37 := by kernel_rfl
  i46 := by kernel_rfl
  i51 := by kernel_rfl
  i53 := by kernel_rfl
  i75 := by kernel_rfl
  i80 := by kernel_rfl
  i127 := by kernel_rfl
  i143 := by kernel_rfl
  i145 := by kernel_rfl
  i167 := by kernel_rfl
  i168 := by kernel_rfl
  i171 := by kernel_rfl
  i173 := by kernel_rfl
  i210 := by kernel_rfl
  i212 := by kernel_rfl
  i232 := by kernel_rfl
  i233 := by kernel_rfl
  m15 := by kernel_rfl
  m16 := by kernel_rfl
  m17 := by kernel_rfl
  m18 := by kernel_rfl
  m19 := by kernel_rfl
  c0 := by kernel_rfl
  c2 := by kernel_rfl
  c3 := by kernel_rfl
  c4 := by kernel_rfl
  c5 := by kernel_rfl
  c9 := by kernel_rfl
  c20 := by kernel_rfl
  c37 := by kernel_rfl
  c46 := by kernel_rfl
  c51 := by kernel_rfl
  c53 := by kernel_rfl
  c75 := by kernel_rfl
  c80 := by kernel_rfl
  c127 := by kernel_rfl
  c143 := by kernel_rfl
  c145 := by kernel_rfl
  c167 := by kernel_rfl
  c168 := by kernel_rfl
  c171 := by kernel_rfl
  c173 := by kernel_rfl
  c210 := by kernel_rfl
  c212 := by kernel_rfl
  c213 := by kernel_rfl
  c232 := by kernel_rfl
  c233 := by kernel_rfl }
open Go.RowKit in
theorem Tryz.strconv_toError_syntax (fn s : ByteArray) (base bits : Int) (ev : Value) (w : World) (hlim : s.size ≤ 281474976710656) (hv : w.cell? ⟨3, 0, none⟩ = some ev) (hev : ev = .nilIface ∨ ∃ te pe, ev = .iface te pe) :
    Calls Tryz.prog 139 #[.string fn, .string s, .int .i64 base, .int .i64 bits, .iface 168 (.int .i64 2)] w fun e w' => ∃ N, e = .returned (.iface 170 (.pointer (some ⟨N, 0, none⟩))) ∧ w.heap.size ≤ N ∧ w'.heap[N]? = some (.cells #[.string fn, .string s, ev] 182 (0, 0)) ∧ Below w.heap.size w w' := Any.strconv_toError_syntax Tryz.laysC245 fn s base bits ev w hlim hv hev
def Tryz.lays321_ren : Go.Shelf.Ren := ⟨fun | 321 => 156 | n => n, fun | 5 => 5 | n => n, fun | n => n⟩
theorem Tryz.lays321 : Go.Proofs.Lays.n321 Tryz.prog Tryz.lays321_ren := {
  mixed := by kernel_rfl
  f321 := Tryz.func156.trans (congrArg some (by kernel_rfl))
  t5 := Tryz.underlying5
  a5 := Tryz.isAgg5
  z5 := Tryz.sizeOf5
  v5 := Tryz.zeroValue5 }
open Go.RowKit in
theorem Tryz.internal_strconv_lower (c : Int) (w : World) :
    Calls Tryz.prog 156 #[.int .u8 c] w fun e w' => e = .returned (.int .u8 (bits .or .u8 c 32)) ∧ w' = w := Any.internal_strconv_lower Tryz.lays321 c w
open Go.RowKit in
theorem Tryz.strconv_toError_range (fn s : ByteArray) (base bits : Int) (ev : Value) (w : World) (hlim : s.size ≤ 281474976710656) (hv : w.cell? ⟨4, 0, none⟩ = some ev) (hev : ev = .nilIface ∨ ∃ te pe, ev = .iface te pe) :
    Calls Tryz.prog 139 #[.string fn, .string s, .int .i64 base, .int .i64 bits, .iface 168 (.int .i64 1)] w fun e w' => ∃ N, e = .returned (.iface 170 (.pointer (some ⟨N, 0, none⟩))) ∧ w.heap.size ≤ N ∧ w'.heap[N]? = some (.cells #[.string fn, .string s, ev] 182 (0, 0)) ∧ Below w.heap.size w w' := Any.strconv_toError_range Tryz.laysC245 fn s base bits ev w hlim hv hev
end Go.Proofs
namespace Go.Proofs.YtclkfideaameoaaGreatDoor.C
open Go.RowKit

def zld (c : UInt8) : Bool := decide (48 ≤ c.toNat ∧ c.toNat ≤ 57 ∨ 97 ≤ c.toNat ∧ c.toNat ≤ 102 ∨ 65 ≤ c.toNat ∧ c.toNat ≤ 70)
def hxv (c : UInt8) : Nat := if c.toNat ≤ 57 then c.toNat - 48 else if 97 ≤ c.toNat then c.toNat - 87 else c.toNat - 55
def puN : Nat → List UInt8 → Option Nat
  | n, [] => some n
  | n, c :: t => if zld c = true then (if 4294967295 < n * 16 + hxv c then none else puN (n * 16 + hxv c) t) else none
theorem zsa : ∀ c : Fin 256, ((65 ≤ c.val ∧ c.val ≤ 70) → bits .or .u8 ((c.val : Nat) : Int) 32 = ((c.val : Nat) : Int) + 32) ∧ ((97 ≤ c.val ∧ c.val ≤ 102) → bits .or .u8 ((c.val : Nat) : Int) 32 = ((c.val : Nat) : Int)) ∧ (¬ (48 ≤ c.val ∧ c.val ≤ 57 ∨ 97 ≤ c.val ∧ c.val ≤ 102 ∨ 65 ≤ c.val ∧ c.val ≤ 70) → bits .or .u8 ((c.val : Nat) : Int) 32 < 97 ∨ (103 ≤ bits .or .u8 ((c.val : Nat) : Int) 32 ∧ bits .or .u8 ((c.val : Nat) : Int) 32 ≤ 122) ∨ 122 < bits .or .u8 ((c.val : Nat) : Int) 32) := by decide +kernel
theorem zle {n : Nat} {c : UInt8} {t : List UInt8} (h : zld c = true) (h2 : ¬ 4294967295 < n * 16 + hxv c) : puN n (c :: t) = puN (n * 16 + hxv c) t := by rw [puN, if_pos h, if_neg h2]
theorem zde {n : Nat} {c : UInt8} {t : List UInt8} (h : zld c = true) (h2 : 4294967295 < n * 16 + hxv c) : puN n (c :: t) = none := by rw [puN, if_pos h, if_pos h2]
theorem jah {n : Nat} {c : UInt8} {t : List UInt8} (h : zld c = false) : puN n (c :: t) = none := by rw [puN, if_neg (by rw [h]; decide)]
def PuA (r : Option Nat) (e : Ending) : Prop := (∃ u : Nat, r = some u ∧ u ≤ 4294967295 ∧ e = .returned (.tuple #[.int .u64 ((u : Nat) : Int), .nilIface])) ∨ (r = none ∧ ∃ v k : Int, (k = 1 ∨ k = 2) ∧ e = .returned (.tuple #[.int .u64 v, .iface 168 (.int .i64 k)]))
set_option maxRecDepth 100000 in
theorem jai (t : ByteArray) (hne : t.size ≠ 0) (hmax : t.size ≤ 9223372036854775806) (w : World) : Calls Tryz.prog 138 #[.string t, .int .i64 16, .int .i64 32] w fun e w' => PuA (puN 0 t.data.toList) e ∧ w' = Lib.bytesWorld w 5 t := by
  have hemp : t.toList.isEmpty = false := by
    rw [← decide_eq_emptyBytes]
    exact decide_eq_false (fun h => hne (by rw [h]; rfl))
  have hcv := Lib.run_convert_string_bytes (P := Tryz.prog) w 9 27 5 t (u := .string) Tryz.underlying9 Tryz.underlying27 Tryz.underlying5
  have hB : ∀ j, j < t.size → (Lib.bytesWorld w 5 t).cell? ⟨w.heap.size, j, none⟩ = some (.int .u8 (t.data.toList.getD j 0).toNat) := fun j hj => Lib.bytesWorld_cell w 5 t j hj
  obtain ⟨W1, hW1⟩ : ∃ W1, W1 = Lib.bytesWorld w 5 t := ⟨_, rfl⟩
  rw [← hW1] at hcv hB ⊢
  clear hW1
  obtain ⟨bs, hL⟩ : ∃ bs, bs = t.data.toList := ⟨_, rfl⟩
  have hLn : bs.length = t.size := by rw [hL, Lib.size_eq]
  rw [← hL] at hB ⊢
  clear hL
  have hmv : IntKind.u64.wrap (IntKind.u64.wrap 4294967296 - 1) = 4294967295 := by
    rw [IntKind.wrap_u64, IntKind.wrap_u64]
    decide
  go_enter Tryz.func138, Tryz.ntmps138
  go_wp2
  go_loop [12, 13, 101] (fun vu vn vi => ∃ (k acc : Nat) (a : Int), vu = .bool false ∧ vn = .int .u64 a ∧ vi = .int .i64 k ∧ k ≤ t.size ∧ Hid (a = (acc : Int) ∧ acc ≤ 4294967295 ∧ puN 0 bs = puN acc (bs.drop k)))
    (fun _ _ vi => t.size - (intOf vi).toNat)
  case atStart => exact ⟨0, 0, 0, rfl, rfl, rfl, by omega, rfl, by omega, rfl⟩
  case round =>
    obtain ⟨k, acc, a, rfl, rfl, rfl, hk, hh⟩ := hrel
    obtain ⟨ha, hacc, hdec⟩ := hh.out
    clear hh
    have a0 : 0 ≤ a := by omega
    have a1 : a ≤ 4294967295 := by omega
    by_cases hkn : k < t.size
    · have hc := hB k hkn
      have hdrop : bs.drop k = bs[k]'(by omega) :: bs.drop (k + 1) := List.drop_eq_getElem_cons (by omega)
      have hget : bs.getD k 0 = bs[k]'(by omega) := by simp [List.getD, List.getElem?_eq_getElem (show k < bs.length by omega)]
      rw [hdrop] at hdec
      rw [hget] at hc
      generalize bs[k]'(by omega) = c at hc hdec
      have hc256 : c.toNat < 256 := c.toNat_lt
      obtain ⟨lw1, lw2, lw3⟩ := zsa ⟨c.toNat, hc256⟩
      dsimp only at lw1 lw2 lw3
      clear hB hdrop hget
      cases hhx : zld c
      · have hno := of_decide_eq_false hhx
        rw [jah hhx] at hdec
        have hl3 := lw3 hno
        have hdg : ¬ (48 ≤ c.toNat ∧ c.toNat ≤ 57) := fun h => hno (.inl h)
        have HD : Aside (puN 0 bs = none) := hdec
        clear lw1 lw2 lw3 hno hhx hacc ha hdec
        have HL : Aside (∀ (w : World), Calls Tryz.prog 156 #[.int .u8 ((c.toNat : Nat) : Int)] w fun e w' => e = .returned (.int .u8 (bits .or .u8 ((c.toNat : Nat) : Int) 32)) ∧ w' = w) := fun w => Tryz.internal_strconv_lower _ w
        generalize bits .or .u8 ((c.toNat : Nat) : Int) 32 = x at hl3 HL
        have h95 : ((((c.toNat : Nat) : Int)) == 95) = true ∨ ((((c.toNat : Nat) : Int)) == 95) = false := by cases ((((c.toNat : Nat) : Int)) == 95) <;> simp
        rcases hl3 with h | h | h
        all_goals (rcases h95 with h95 | h95)
        all_goals go_wp2_with (go_at_call 156; refine (HL.out _).mono ?_; rintro e w' ⟨rfl, rfl⟩)
        all_goals go_ret2
        all_goals exact ⟨.inr ⟨HD.out, _, _, .inr rfl, rfl⟩, rfl⟩
      · have hyes := of_decide_eq_true hhx
        by_cases hdig : 48 ≤ c.toNat ∧ c.toNat ≤ 57
        · obtain ⟨hd0, hd1⟩ := hdig
          have hv : hxv c = c.toNat - 48 := by unfold hxv; rw [if_pos hd1]
          by_cases hov : 4294967295 < acc * 16 + hxv c
          · rw [zde hhx hov] at hdec
            have HD : Aside (puN 0 bs = none) := hdec
            have iov : 4294967295 < a * 16 + ((c.toNat : Int) - 48) := by omega
            clear lw1 lw2 lw3 hyes hhx hdec hov hv ha hacc
            go_wp2
            go_ret2
            exact ⟨.inr ⟨HD.out, _, _, .inl rfl, rfl⟩, rfl⟩
          · rw [zle hhx hov] at hdec
            have HN : Hid (a * 16 + ((c.toNat : Int) - 48) = ((acc * 16 + hxv c : Nat) : Int) ∧ acc * 16 + hxv c ≤ 4294967295 ∧ puN 0 bs = puN (acc * 16 + hxv c) (bs.drop (k + 1))) := Lib.hid ⟨by omega, by omega, hdec⟩
            have iov : a * 16 + ((c.toNat : Int) - 48) ≤ 4294967295 := by omega
            clear lw1 lw2 lw3 hyes hhx hdec hov hv ha hacc
            go_wp2
            exact ⟨⟨k + 1, acc * 16 + hxv c, a * 16 + ((c.toNat : Int) - 48), rfl, (by first | rfl | (congr 1; omega)), (by first | rfl | (congr 1; omega)), by omega, HN⟩, by simp [intOf]; omega⟩
        · have hx : ∃ x : Int, bits .or .u8 ((c.toNat : Nat) : Int) 32 = x ∧ 97 ≤ x ∧ x ≤ 102 ∧ ((hxv c : Nat) : Int) = x - 97 + 10 := by
            unfold hxv
            by_cases h97 : 97 ≤ c.toNat
            · exact ⟨_, lw2 (by omega), by omega, by omega, by rw [if_neg (by omega), if_pos h97]; omega⟩
            · exact ⟨_, lw1 (by omega), by omega, by omega, by rw [if_neg (by omega), if_neg h97]; omega⟩
          obtain ⟨x, ex, x0, x1, hv⟩ := hx
          have HL : Aside (∀ (w : World), Calls Tryz.prog 156 #[.int .u8 ((c.toNat : Nat) : Int)] w fun e w' => e = .returned (.int .u8 x) ∧ w' = w) := fun w => ex ▸ Tryz.internal_strconv_lower _ w
          have h95 : ((((c.toNat : Nat) : Int)) == 95) = false := beq_eq_false_iff_ne.2 (by omega)
          have hg0 : (48 : Int) ≤ ((c.toNat : Nat) : Int) := by omega
          have hg1 : ¬ (((c.toNat : Nat) : Int) ≤ 57) := by omega
          clear hdig
          by_cases hov : 4294967295 < acc * 16 + hxv c
          · rw [zde hhx hov] at hdec
            have HD : Aside (puN 0 bs = none) := hdec
            have iov : 4294967295 < a * 16 + (x - 97 + 10) := by omega
            clear lw1 lw2 lw3 hyes hhx hdec hov hv ha hacc ex
            go_wp2_with (go_at_call 156; refine (HL.out _).mono ?_; rintro e w' ⟨rfl, rfl⟩)
            go_ret2
            exact ⟨.inr ⟨HD.out, _, _, .inl rfl, rfl⟩, rfl⟩
          · rw [zle hhx hov] at hdec
            have HN : Hid (a * 16 + (x - 97 + 10) = ((acc * 16 + hxv c : Nat) : Int) ∧ acc * 16 + hxv c ≤ 4294967295 ∧ puN 0 bs = puN (acc * 16 + hxv c) (bs.drop (k + 1))) := Lib.hid ⟨by omega, by omega, hdec⟩
            have iov : a * 16 + (x - 97 + 10) ≤ 4294967295 := by omega
            clear lw1 lw2 lw3 hyes hhx hdec hov hv ha hacc ex
            go_wp2_with (go_at_call 156; refine (HL.out _).mono ?_; rintro e w' ⟨rfl, rfl⟩)
            exact ⟨⟨k + 1, acc * 16 + hxv c, a * 16 + (x - 97 + 10), rfl, (by first | rfl | (congr 1; omega)), (by first | rfl | (congr 1; omega)), by omega, HN⟩, by simp [intOf]; omega⟩
    · have hkk : k = t.size := by omega
      subst hkk
      have hF : puN acc (bs.drop t.size) = some acc := by rw [List.drop_eq_nil_of_le (by omega)]; rfl
      rw [hF] at hdec
      subst ha
      have HD : Aside (puN 0 bs = some acc ∧ acc ≤ 4294967295) := ⟨hdec, hacc⟩
      clear hacc hF a0 a1 hdec
      go_wp2
      go_ret2
      exact ⟨.inl ⟨acc, HD.out.1, HD.out.2, rfl⟩, rfl⟩
def Er (w : World) : Prop := (∃ ev : Value, w.cell? ⟨Tryz.laysC245_ren.g 15, 0, none⟩ = some ev ∧ (ev = .nilIface ∨ ∃ te pe, ev = .iface te pe)) ∧ (∃ ev : Value, w.cell? ⟨Tryz.laysC245_ren.g 16, 0, none⟩ = some ev ∧ (ev = .nilIface ∨ ∃ te pe, ev = .iface te pe))
theorem Er.below {w w' : World} (h : Er w) (hb : Below w.heap.size w w') : Er w' := by
  obtain ⟨⟨v, h1, h2⟩, ⟨u, h3, h4⟩⟩ := h
  exact ⟨⟨v, (hb.cell (show (⟨_, 0, none⟩ : Addr).block < w.heap.size from Lib.lt_of_cell h1)).trans h1, h2⟩, ⟨u, (hb.cell (show (⟨_, 0, none⟩ : Addr).block < w.heap.size from Lib.lt_of_cell h3)).trans h3, h4⟩⟩
def puX (l : List UInt8) : Option Nat := if l.isEmpty = true then none else puN 0 l
def PuB (r : Option Nat) (e : Ending) : Prop := (∃ u : Nat, r = some u ∧ u ≤ 4294967295 ∧ e = .returned (.tuple #[.int .u64 ((u : Nat) : Int), .nilIface])) ∨ (r = none ∧ ∃ (v : Int) (ty : TypeId) (p : Value), e = .returned (.tuple #[.int .u64 v, .iface ty p]))
set_option maxRecDepth 100000 in
theorem zsb (t : ByteArray) (h0 : t.size = 0) (w : World) : Calls Tryz.prog 138 #[.string t, .int .i64 16, .int .i64 32] w fun e w' => e = .returned (.tuple #[.int .u64 0, .iface 168 (.int .i64 2)]) ∧ w' = w := by
  have hemp : t.toList.isEmpty = true := by rw [Lib.toList_data, show t.data.toList = [] from List.length_eq_zero_iff.1 (by rw [← Lib.size_eq]; exact h0)]; rfl
  go_enter Tryz.func138, Tryz.ntmps138
  go_wp2
  go_ret2
  exact ⟨rfl, rfl⟩
theorem zxe (t : ByteArray) (hmax : t.size ≤ 281474976710656) (w : World) : Calls Tryz.prog 138 #[.string t, .int .i64 16, .int .i64 32] w fun e w' => PuA (puX t.data.toList) e ∧ Below w.heap.size w w' := by
  by_cases h0 : t.size = 0
  · refine (zsb t h0 w).mono ?_
    rintro e w' ⟨rfl, rfl⟩
    exact ⟨.inr ⟨by unfold puX; rw [if_pos (by rw [List.isEmpty_iff, ← List.length_eq_zero_iff, ← Lib.size_eq]; exact h0)], _, _, .inr rfl, rfl⟩, Below.refl _ _⟩
  · refine (jai t h0 (by omega) w).mono ?_
    rintro e w' ⟨h1, rfl⟩
    exact ⟨by unfold puX; rw [if_neg (by rw [List.isEmpty_iff, ← List.length_eq_zero_iff, ← Lib.size_eq]; exact h0)]; exact h1, Lib.bytesWorld_below _ _ _⟩
set_option maxRecDepth 100000 in
theorem pu_any (t : ByteArray) (hlim : t.size ≤ 281474976710656) (w : World) (hE : Er w) : Calls Tryz.prog 117 #[.string t, .int .i64 16, .int .i64 32] w fun e w' => PuB (puX t.data.toList) e ∧ Below w.heap.size w w' := by
  have HI : Hid _ := zxe t hlim w
  have HE : Aside (Er w) := hE
  clear hE
  go_enter Tryz.func117, Tryz.ntmps117
  go_wp2_with (go_at_call 138; refine Calls.mono HI.out ?_)
  rintro e W1 hA hb1
  obtain ⟨⟨v1, e1, e2⟩, ⟨v2, e3, e4⟩⟩ := HE.out.below hb1
  rcases hA with ⟨u, hr, hu, rfl⟩ | ⟨hr, v, k, rfl | rfl, rfl⟩
  · have HR : Aside (puX t.data.toList = some u ∧ u ≤ 4294967295) := ⟨hr, hu⟩
    clear hr hu e1 e2 e3 e4
    go_wp2
    go_ret2
    exact ⟨.inl ⟨u, HR.out.1, HR.out.2, rfl⟩, hb1⟩
  · have HR : Aside (puX t.data.toList = none) := hr
    have HT : Hid _ := Tryz.strconv_toError_range ⟨#[80, 97, 114, 115, 101, 85, 105, 110, 116]⟩ t 16 32 v2 W1 hlim e3 e4
    clear hr e1 e2 e3 e4
    go_wp2_with (go_at_call 139; refine Calls.mono HT.out ?_; rintro e W2 ⟨N, rfl, h1, h2, h3⟩; clear h2)
    go_ret2
    exact ⟨.inr ⟨HR.out, _, _, _, rfl⟩, hb1.trans (h3.mono hb1.size)⟩
  · have HR : Aside (puX t.data.toList = none) := hr
    have HT : Hid _ := Tryz.strconv_toError_syntax ⟨#[80, 97, 114, 115, 101, 85, 105, 110, 116]⟩ t 16 32 v1 W1 hlim e1 e2
    clear hr e1 e2 e3 e4
    go_wp2_with (go_at_call 139; refine Calls.mono HT.out ?_; rintro e W2 ⟨N, rfl, h1, h2, h3⟩; clear h2)
    go_ret2
    exact ⟨.inr ⟨HR.out, _, _, _, rfl⟩, hb1.trans (h3.mono hb1.size)⟩
end Go.Proofs.YtclkfideaameoaaGreatDoor.C
namespace Go.Proofs.YtclkfideaameoaaGreatDoor.G
open Go.RowKit

structure Nu where
  q : Q6
  o1 : Option Addr
  c1 : Nat
  o2 : Option Addr
  c2 : Nat
  o3 : Option Addr
  c3 : Nat
  o4 : Option Addr
  c4 : Nat
def Nu.nm (w : World) (y : Nu) : Prop := Nm w y.q y.o1 y.c1 y.o2 y.c2 y.o3 y.c3 y.o4 y.c4
theorem Nu.below {w w' : World} {y : Nu} (h : y.nm w) (hb : Below w.heap.size w w') : y.nm w' := ⟨h.s1.below hb, h.s2.below hb, h.s3.below hb, h.s4.below hb⟩
def Nu.val (y : Nu) : Value := qdc y.q y.o1 y.c1 y.o2 y.c2 y.o3 y.c3 y.o4 y.c4
theorem ju {P : Program} {w : World} {l : List (Nat × Value)} {dst : Option Tmp} {ty : TypeId} {pos : String} {after : Array Edge} {guard : Option (Nat × Bool)} {x : Operand} {a : Addr} (hx : ev l x = some (.pointer (some a))) : Does P l ⟨dst, .nilCheck x, ty, pos, after, guard⟩ w (.pointer (some a)) w := fun ρ h => by
  simp only [execOp, h x _ hx, Sem.run_pure]
structure Nd where
  k : Int
  n : Int
  y : Nu
  s : ByteArray
  ro : Option Addr
  rc : Nat
  rl : List UInt8
  lo : Option Addr
  lc : Nat
inductive Dt where
  | mk (d : Nd) (ts : List Dt)
def Dt.d : Dt → Nd
  | .mk d _ => d
def Dt.ts : Dt → List Dt
  | .mk _ ts => ts
def Nd.cells (d : Nd) (m : Nat) : List Value := [.int .i64 d.k, .int .i64 d.n, .bool d.y.q.b1, .slice d.y.o1 d.y.q.t1.length d.y.c1, .slice d.y.o2 d.y.q.q1.length d.y.c2, .bool d.y.q.b2, .slice d.y.o3 d.y.q.t2.length d.y.c3, .slice d.y.o4 d.y.q.q2.length d.y.c4, .string d.s, .slice d.ro d.rl.length d.rc, .slice d.lo m d.lc]
def Dt.cells (t : Dt) : List Value := t.d.cells t.ts.length
inductive Tr where
  | mk (k n : Int) (q : Q6) (s : ByteArray) (rl : List UInt8) (ts : List Tr)
def Tr.k : Tr → Int
  | .mk k _ _ _ _ _ => k
def Tr.n : Tr → Int
  | .mk _ n _ _ _ _ => n
def Tr.q : Tr → Q6
  | .mk _ _ q _ _ _ => q
def Tr.s : Tr → ByteArray
  | .mk _ _ _ s _ _ => s
def Tr.rl : Tr → List UInt8
  | .mk _ _ _ _ r _ => r
def Tr.ts : Tr → List Tr
  | .mk _ _ _ _ _ ts => ts
mutual
def Dt.tr : Dt → Tr
  | .mk d ts => .mk d.k d.n d.y.q d.s d.rl (Dt.trs ts)
def Dt.trs : List Dt → List Tr
  | [] => []
  | t :: ts => t.tr :: Dt.trs ts
end
theorem Dt.trs_map : ∀ ts : List Dt, Dt.trs ts = ts.map Dt.tr
  | [] => by simp [Dt.trs]
  | t :: ts => by simp [Dt.trs, Dt.trs_map ts]
mutual
theorem Dt.indT {P : Dt → Prop} (h : ∀ d ts, (∀ t ∈ ts, P t) → P (.mk d ts)) : ∀ t, P t
  | .mk d ts => h d ts (Dt.indL h ts)
theorem Dt.indL {P : Dt → Prop} (h : ∀ d ts, (∀ t ∈ ts, P t) → P (.mk d ts)) : ∀ ts : List Dt, ∀ t ∈ ts, P t
  | [], t, ht => by cases ht
  | u :: us, t, ht => by
    rcases List.mem_cons.1 ht with e | e
    · rw [e]; exact Dt.indT h u
    · exact Dt.indL h us t e
end
mutual
theorem Tr.indT {P : Tr → Prop} (h : ∀ k n q s rl ts, (∀ t ∈ ts, P t) → P (.mk k n q s rl ts)) : ∀ t, P t
  | .mk k n q s rl ts => h k n q s rl ts (Tr.indL h ts)
theorem Tr.indL {P : Tr → Prop} (h : ∀ k n q s rl ts, (∀ t ∈ ts, P t) → P (.mk k n q s rl ts)) : ∀ ts : List Tr, ∀ t ∈ ts, P t
  | [], t, ht => by cases ht
  | u :: us, t, ht => by
    rcases List.mem_cons.1 ht with e | e
    · rw [e]; exact Tr.indT h u
    · exact Tr.indL h us t e
end
def Here (w : World) (b o : Nat) (cs : List Value) : Prop := b < w.heap.size ∧ ∀ j v, cs[j]? = some v → w.cell? ⟨b, o + j, none⟩ = some v
theorem Here.below {w w' : World} {b o : Nat} {cs : List Value} (h : Here w b o cs) (hb : Below w.heap.size w w') : Here w' b o cs := ⟨Nat.lt_of_lt_of_le h.1 hb.size, fun j v hj => (hb.cell h.1).trans (h.2 j v hj)⟩
def Rt (w : World) (lo : Option Addr) (ts : List Dt) : Prop := ts ≠ [] → ∃ b o, lo = some ⟨b, o, none⟩ ∧ ∀ i t, ts[i]? = some t → Here w b (o + i * 11) t.cells
theorem Rt.below {w w' : World} {lo : Option Addr} {ts : List Dt} (h : Rt w lo ts) (hb : Below w.heap.size w w') : Rt w' lo ts := fun hne => by
  obtain ⟨b, o, e, h2⟩ := h hne
  exact ⟨b, o, e, fun i t hi => (h2 i t hi).below hb⟩
structure NdOk (w : World) (d : Nd) : Prop where
  num : d.y.nm w
  len : LenQ d.y.q
  raw : Rb w d.ro d.rl
  rcap : d.rl.length ≤ d.rc
  rmax : d.rc ≤ 9223372036854775807
  k0 : -9223372036854775808 ≤ d.k
  k1 : d.k ≤ 9223372036854775807
  n0 : -9223372036854775808 ≤ d.n
  n1 : d.n ≤ 9223372036854775807
  smax : d.s.size ≤ 9223372036854775807
theorem NdOk.below {w w' : World} {d : Nd} (h : NdOk w d) (hb : Below w.heap.size w w') : NdOk w' d := { h with num := Nu.below h.num hb, raw := h.raw.below hb }
mutual
def Dt.rd (w : World) : Dt → Prop
  | .mk d ts => NdOk w d ∧ ts.length ≤ d.lc ∧ d.lc ≤ 9223372036854775807 ∧ Rt w d.lo ts ∧ Dt.rds w ts
def Dt.rds (w : World) : List Dt → Prop
  | [] => True
  | t :: ts => t.rd w ∧ Dt.rds w ts
end
theorem Dt.rds_iff {w : World} : ∀ {ts : List Dt}, Dt.rds w ts ↔ ∀ t ∈ ts, t.rd w
  | [] => by simp [Dt.rds]
  | t :: ts => by simp [Dt.rds, Dt.rds_iff (ts := ts)]
theorem Dt.rd_iff {w : World} {d : Nd} {ts : List Dt} : (Dt.mk d ts).rd w ↔ NdOk w d ∧ ts.length ≤ d.lc ∧ d.lc ≤ 9223372036854775807 ∧ Rt w d.lo ts ∧ ∀ t ∈ ts, t.rd w := by
  rw [← Dt.rds_iff]; unfold Dt.rd; exact Iff.rfl
theorem Dt.keep {w w' : World} (hb : Below w.heap.size w w') : ∀ t : Dt, t.rd w → t.rd w' :=
  Dt.indT fun d ts ih h => by
    rw [Dt.rd_iff] at h ⊢
    exact ⟨h.1.below hb, h.2.1, h.2.2.1, h.2.2.2.1.below hb, fun t ht => ih t ht (h.2.2.2.2 t ht)⟩
theorem Dt.tr_mk (d : Nd) (ts : List Dt) : (Dt.mk d ts).tr = .mk d.k d.n d.y.q d.s d.rl (ts.map Dt.tr) := by rw [Dt.tr, Dt.trs_map]
mutual
def jw (dp left : Int) : Tr → Bool × Int
  | .mk k _ _ _ _ ts => if left - 1 < 0 ∨ 200 < dp then (false, left - 1) else qbg dp (decide (k = 8)) 0 (left - 1) ts
def qbg (dp : Int) (pr : Bool) (i : Nat) (left : Int) : List Tr → Bool × Int
  | [] => (true, left)
  | t :: ts => if (jw (if pr = true ∧ i = 1 then dp else dp + 1) left t).1 = true then qbg dp pr (i + 1) (jw (if pr = true ∧ i = 1 then dp else dp + 1) left t).2 ts else (false, (jw (if pr = true ∧ i = 1 then dp else dp + 1) left t).2)
end
theorem qoa : ∀ t : Tr, ∀ dp left : Int, (jw dp left t).1 = true → 0 ≤ (jw dp left t).2 := by
  refine Tr.indT fun k n q s rl ts ih dp left h => ?_
  rw [jw] at h ⊢
  by_cases hc : left - 1 < 0 ∨ 200 < dp
  · rw [if_pos hc] at h; cases h
  · rw [if_neg hc] at h ⊢
    have hl : 0 ≤ left - 1 := by omega
    generalize left - 1 = m at h hl ⊢
    generalize decide (k = 8) = pr at h ⊢
    have key : ∀ (us : List Tr), (∀ t ∈ us, ∀ dp left : Int, (jw dp left t).1 = true → 0 ≤ (jw dp left t).2) → ∀ (i : Nat) (m : Int), 0 ≤ m → (qbg dp pr i m us).1 = true → 0 ≤ (qbg dp pr i m us).2 := by
      intro us
      induction us with
      | nil => intro _ i m hm _; exact hm
      | cons t us ih2 =>
        intro hu i m hm h
        rw [qbg] at h ⊢
        by_cases ht : (jw (if pr = true ∧ i = 1 then dp else dp + 1) m t).1 = true
        · rw [if_pos ht] at h ⊢
          exact ih2 (fun x hx => hu x (List.mem_cons_of_mem _ hx)) _ _ (hu t List.mem_cons_self _ _ ht) h
        · rw [if_neg ht] at h; cases h
    exact key ts ih 0 m hl h
section
variable {P : Program} {w0 w : World} {L : List Ck} {l : List (Nat × Value)} {dst : Option Tmp} {ty : TypeId} {pos : String} {after : Array Edge} {guard : Option (Nat × Bool)} {v : Value}
theorem uh (hM : Mg w0 w L) {b o o' j : Nat} {cs : List Value} (hH : Here w0 b o cs) {t : TypeId} (ht : Is1 P t) {x : Operand} (hx : ev l x = some (.pointer (some ⟨b, o', none⟩))) (ho : o' = o + j) (hv : cs[j]? = some v) : Does P l ⟨dst, .load t x, ty, pos, after, guard⟩ w v w := by
  subst ho
  exact jt hx (vb ht ((hM.bel.cell hH.1).trans (hH.2 j v hv)))
theorem qsa (hM : Mg w0 w L) {b o n : Nat} {cs : List Value} (hH : Here w0 b o cs) {t : TypeId} (ht : IsS P t n) {x : Operand} (hx : ev l x = some (.pointer (some ⟨b, o, none⟩))) (hl : cs.length = n) : Does P l ⟨dst, .load t x, ty, pos, after, guard⟩ w (.agg cs.toArray) w :=
  jt hx (xp ht cs hl (fun j v hj => (hM.bel.cell hH.1).trans (hH.2 j v hj)))
theorem xb {t e : TypeId} {sz : Nat} (hu : P.underlying t = some (.slice e)) (he : (P.info? e).map (·.size) = some sz) {x i : Operand} {so : Option Addr} {g off n c k : Nat} {z : Int} (hx : ev l x = some (.slice so n c)) (hi : ev l i = some (.int .i64 z)) (hz : z = (k : Nat)) (hso : so = some ⟨g, off, none⟩) (hk : k < n) :
    Does P l ⟨dst, .indexAddr t x i, ty, pos, after, guard⟩ w (.pointer (some ⟨g, off + k * sz, none⟩)) w := by
  subst hz hso
  exact yg (l := l) (dst := dst) (ty := ty) (pos := pos) (after := after) (guard := guard) (w := w) hx hi (qya hu he hk)
end
theorem kid {w : World} {d : Nd} {ts : List Dt} (h : (Dt.mk d ts).rd w) {i : Nat} (hi : i < ts.length) : ∃ t b o, ts[i]? = some t ∧ t ∈ ts ∧ t.rd w ∧ d.lo = some ⟨b, o, none⟩ ∧ Here w b (o + i * 11) t.cells := by
  rw [Dt.rd_iff] at h
  have hne : ts ≠ [] := fun e => by subst e; simp at hi
  obtain ⟨b, o, e, h2⟩ := h.2.2.2.1 hne
  have ht := List.getElem?_eq_getElem hi
  exact ⟨ts[i], b, o, ht, List.getElem_mem hi, h.2.2.2.2 _ (List.getElem_mem hi), e, h2 i _ ht⟩
theorem yt {ts : List Dt} {i : Nat} {t : Dt} (h : ts[i]? = some t) : (ts.map Dt.tr).drop i = t.tr :: (ts.map Dt.tr).drop (i + 1) := by
  obtain ⟨hi, rfl⟩ := List.getElem?_eq_some_iff.1 h
  rw [List.drop_eq_getElem_cons (by simpa using hi)]
  simp
theorem qff {ts : List Dt} {i : Nat} (h : ¬ i < ts.length) : (ts.map Dt.tr).drop i = [] := List.drop_of_length_le (by simp; omega)
theorem qyb : ∀ t : Tr, ∀ dp left : Int, (jw dp left t).2 ≤ left := by
  refine Tr.indT fun k n q s rl ts ih dp left => ?_
  rw [jw]
  split
  · show left - 1 ≤ left; omega
  · have key : ∀ (us : List Tr), (∀ t ∈ us, ∀ dp left : Int, (jw dp left t).2 ≤ left) → ∀ (i : Nat) (m : Int), (qbg dp (decide (k = 8)) i m us).2 ≤ m := by
      intro us
      induction us with
      | nil => intro _ i m; exact Int.le_refl _
      | cons t us ih2 =>
        intro hu i m
        rw [qbg]
        generalize (if decide (k = 8) = true ∧ i = 1 then dp else dp + 1) = D
        have h1 := hu t List.mem_cons_self D m
        split
        · exact Int.le_trans (ih2 (fun x hx => hu x (List.mem_cons_of_mem _ hx)) _ _) h1
        · exact h1
    have := key ts ih 0 (left - 1)
    omega
theorem qoc {dp m D : Int} {pr : Bool} {i : Nat} {ts : List Dt} {t : Dt} (hi : ts[i]? = some t) (hD : (if pr = true ∧ i = 1 then dp else dp + 1) = D) (h : (jw D m t.tr).1 = true) : qbg dp pr i m ((ts.map Dt.tr).drop i) = qbg dp pr (i + 1) (jw D m t.tr).2 ((ts.map Dt.tr).drop (i + 1)) := by
  rw [yt hi, qbg, hD, if_pos h]
theorem qfg {dp m D : Int} {pr : Bool} {i : Nat} {ts : List Dt} {t : Dt} (hi : ts[i]? = some t) (hD : (if pr = true ∧ i = 1 then dp else dp + 1) = D) (h : (jw D m t.tr).1 = false) : qbg dp pr i m ((ts.map Dt.tr).drop i) = (false, (jw D m t.tr).2) := by
  rw [yt hi, qbg, hD, if_neg (by rw [h]; decide)]
theorem qhh {dp left : Int} {d : Nd} {ts : List Dt} (h1 : ¬ left - 1 < 0) (h2 : ¬ 200 < dp) : jw dp left (Dt.mk d ts).tr = qbg dp (decide (d.k = 8)) 0 (left - 1) ((ts.map Dt.tr).drop 0) := by
  rw [Dt.tr_mk, jw, if_neg (by omega), List.drop_zero]
theorem zdh {dp left : Int} {d : Nd} {ts : List Dt} (h : left - 1 < 0 ∨ 200 < dp) : jw dp left (Dt.mk d ts).tr = (false, left - 1) := by
  rw [Dt.tr_mk, jw, if_pos h]
def ku (n : Int) : Bool := decide (0 ≤ n ∧ n ≤ 1114111 ∧ (n < 55296 ∨ 57343 < n))
def okS (s : ByteArray) : Bool := Lib.validD s.data.toList
set_option maxRecDepth 100000
theorem qhc : Is1 Tryz.prog 28 := ⟨⟨_, Tryz.underlying28, rfl⟩, by kernel_rfl⟩
theorem o93 : Is1 Tryz.prog 3 := ⟨⟨_, Tryz.underlying3, rfl⟩, by kernel_rfl⟩
theorem qod : FieldAt Tryz.prog 30 0 0 := ⟨_, _, Tryz.underlying30, rfl, rfl, by kernel_rfl⟩
theorem kr : FieldAt Tryz.prog 30 5 10 := ⟨_, _, Tryz.underlying30, rfl, rfl, by kernel_rfl⟩
theorem ym : FieldAt Tryz.prog 50 1 1 := ⟨_, _, Tryz.underlying50, rfl, rfl, by kernel_rfl⟩
theorem qlg : Is1 Tryz.prog 27 := ⟨⟨_, Tryz.underlying27, rfl⟩, by kernel_rfl⟩
theorem qce : FieldAt Tryz.prog 83 1 1 := ⟨_, _, Tryz.underlying83, rfl, rfl, by kernel_rfl⟩
theorem qoe : FieldAt Tryz.prog 50 2 2 := ⟨_, _, Tryz.underlying50, rfl, rfl, by kernel_rfl⟩
theorem zse : IsS Tryz.prog 26 6 := ⟨⟨_, Tryz.underlying26⟩, by kernel_rfl⟩
theorem xw : IsS Tryz.prog 30 11 := ⟨⟨_, Tryz.underlying30⟩, by kernel_rfl⟩
theorem o94 : Is1 Tryz.prog 4 := ⟨⟨_, Tryz.underlying4, rfl⟩, by kernel_rfl⟩
theorem o99 : Is1 Tryz.prog 9 := ⟨⟨_, Tryz.underlying9, rfl⟩, by kernel_rfl⟩
theorem zxh : FieldAt Tryz.prog 50 0 0 := ⟨_, _, Tryz.underlying50, rfl, rfl, by kernel_rfl⟩
theorem qyc : FieldAt Tryz.prog 30 2 2 := ⟨_, _, Tryz.underlying30, rfl, rfl, by kernel_rfl⟩
theorem zli : Is1 Tryz.prog 31 := ⟨⟨_, Tryz.underlying31, rfl⟩, by kernel_rfl⟩
theorem qyd : FieldAt Tryz.prog 30 1 1 := ⟨_, _, Tryz.underlying30, rfl, rfl, by kernel_rfl⟩
theorem qye : FieldAt Tryz.prog 30 3 8 := ⟨_, _, Tryz.underlying30, rfl, rfl, by kernel_rfl⟩
theorem o95 : Is1 Tryz.prog 5 := ⟨⟨_, Tryz.underlying5, rfl⟩, by kernel_rfl⟩
theorem qjd : FieldAt Tryz.prog 30 4 9 := ⟨_, _, Tryz.underlying30, rfl, rfl, by kernel_rfl⟩
def FitsAt (t : Dt) : Prop := ∀ {w0 w : World} {b o gl : Nat} {left dp : Int} {T : List Ck}, t.rd w0 → Here w0 b o t.cells → Mg w0 w (.obj gl (.cells #[iV left] 3) :: T) → 0 ≤ left → left ≤ 20000 → 0 ≤ dp → dp ≤ 201 → Calls Tryz.prog 25 #[pA b o, iV dp, pA gl 0] w fun e w' => e = .returned (bV (jw dp left t.tr).1) ∧ Mg w0 w' (.obj gl (.cells #[iV (jw dp left t.tr).2] 3) :: T)
theorem qyf : ∀ t : Dt, FitsAt t := Dt.indT fun d ts ih => by
 intro w0 w b o gl left dp T hrd hH hM0 hl0 hl1 hd0 hd1
 replace hH : Here w0 b o (d.cells ts.length) := hH
 have hok := (Dt.rd_iff.1 hrd)
 have hk0 := hok.1.k0
 have hk1 := hok.1.k1
 have hlen : ts.length ≤ 9223372036854775807 := Nat.le_trans hok.2.1 hok.2.2.1
 have M : Mg w0 w (.obj gl (.cells #[iV left] 3) :: T) := hM0
 refine qw (l := [(0, pA b o), (1, iV dp), (2, pA gl 0)]) Tryz.func25 rfl Tryz.ntmps25 rfl rfl ?_
 intro Q hret hnorm hP a A
 refine wsk fun K1 hK1 => wrl (sda A λa A↦?_)
 refine qa (hK1 _ _ (wsk fun K2 hK2 => wrl (sdm A λa A↦?_)))
 refine sdo A (ju rfl) λa A↦?_
 refine sdo A (zq M o93 rfl 0 rfl rfl) λa A↦?_
 refine sdo (v := iV (left - 1)) A (qb rfl rfl (zsd (uz (by omega) (by omega)))) λa A↦?_
 refine sdo A (ju rfl) λa A↦?_
 refine zp (L' := (.obj gl (.cells #[iV (left - 1)] 3) :: T)) A M rfl rfl (ze rfl rfl rfl (by kernel_rfl) M 0 rfl rfl rfl) 0 rfl rfl rfl ?_
 intro w3 M
 refine qa (hK2 _ _ (wsk fun K4 hK4 => wsk fun K5 hK5 => wrl (sdm A λa A↦?_)))
 refine sdo A (ju rfl) λa A↦?_
 refine sdo A (zq M o93 rfl 0 rfl rfl) λa A↦?_
 rcases tf (decide (left - 1 < 0)) with hb6 | hb6
 ·
  have hb6' := of_decide_eq_true hb6
  refine sdc A jk hb6 λa A↦?_
  refine sdm A λa A↦?_
  iterate 2 refine qf A rfl rfl rfl λa A↦?_
  refine sdk (v := bV true) A λa A↦?_
  refine qa (hK5 _ _ (ct A ?_))
  refine wsk fun K7 hK7 => wrl (sda A λa A↦?_)
  refine qa (hK7 _ _ (wr1 hret A ?_))
  rw [zdh (by omega)]
  exact ⟨rfl, M⟩
 ·
  have hb6' := of_decide_eq_false hb6
  refine sdc A jk hb6 λa A↦?_
  iterate 2 refine sdm A λa A↦?_
  rcases tf (decide (200 < dp)) with hb8 | hb8
  ·
   have hb8' := of_decide_eq_true hb8
   refine sdc A jc hb8 λa A↦?_
   refine sdk (v := bV true) A λa A↦?_
   refine qa (hK5 _ _ (ct A ?_))
   refine wsk fun K9 hK9 => wrl (sda A λa A↦?_)
   refine qa (hK9 _ _ (wr1 hret A ?_))
   rw [zdh (by omega)]
   exact ⟨rfl, M⟩
  ·
   have hb8' := of_decide_eq_false hb8
   refine sdc A jc hb8 λa A↦?_
   refine sdk (v := bV false) A λa A↦?_
   refine qa (hK5 _ _ (cf A ?_))
   refine wp_skip (hK4 _ _ (wsk fun K10 hK10 => wsk fun K11 hK11 => wrl (sdm A λa A↦?_)))
   refine sdo A (ju rfl) λa A↦?_
   refine sdo (v := pA b (o + 10)) A (qe kr rfl rfl) λa A↦?_
   refine sdo A (uh (j := 10) M hH qhc rfl rfl rfl) λa A↦?_
   refine sdo A (zs Tryz.underlying28 rfl) λa A↦?_
   refine sdm A λa A↦?_
   refine qa (hK11 _ _ (wp_block (jj (fun m_ a w1 => ∃ (i : Nat) (m : Int), m_ = 1 + (ts.length - i) ∧ (i ≤ ts.length ∧ qbg dp (decide (d.k = 8)) 0 (left - 1) ((ts.map Dt.tr).drop 0) = qbg dp (decide (d.k = 8)) i m ((ts.map Dt.tr).drop i) ∧ 0 ≤ m ∧ m ≤ 20000) ∧ Sl a 53 [(0, pA b o), (1, iV dp), (2, pA gl 0), (9, pA gl 0), (10, pA gl 0), (11, iV left), (12, iV (left - 1)), (13, pA gl 0), (14, pA gl 0), (15, pA gl 0), (16, iV (left - 1)), (17, bV false), (18, bV false), (19, iV dp), (20, bV false), (21, bV false), (22, pA b o), (23, pA b o), (24, pA b (o + 10)), (25, .slice d.lo ts.length d.lc), (26, iV (((ts.length : Nat) : Int))), (27, iV (((i : Nat) : Int)))] ∧ Mg w0 w1 (.obj gl (.cells #[iV m] 3) :: T)) _ ⟨0, left - 1, rfl, ⟨Nat.zero_le _, rfl, by omega, by omega⟩, A.keep _ (by repeat' constructor), M⟩ ?_)))
   clear M A
   rintro m_ a w12 ⟨i, m, rfl, hinv14, A, M⟩ K13 hK13
   obtain ⟨hi0, hin9, hm0, hm1⟩ := hinv14
   refine wsk fun K15 hK15 => wrl ?_
   rcases tf (decide (((i : Nat) : Int) < ((ts.length : Nat) : Int))) with hb16 | hb16
   ·
    have hb16' := of_decide_eq_true hb16
    refine sdc A jk hb16 λa A↦?_
    refine qa (hK15 _ _ (wsk fun K17 hK17 => wp_cond_true (A.ev rfl) ?_))
    refine wp_skip (hK17 _ _ (wsk fun K18 hK18 => wp_block (wsk fun K19 hK19 => wrl (sdm A λa A↦?_))))
    refine sda A λa A↦?_
    refine qa (hK19 _ _ (wsk fun K20 hK20 => wrl (sdm A λa A↦?_)))
    refine sdo (v := iV (dp + 1)) A (qb rfl rfl (yi (uz (by omega) (by omega)))) λa A↦?_
    refine sda A λa A↦?_
    refine qa (hK20 _ _ (wsk fun K21 hK21 => wsk fun K22 hK22 => wrl (sdm A λa A↦?_)))
    refine sdo A (ju rfl) λa A↦?_
    refine sdo (v := pA b o) A (qe qod rfl rfl) λa A↦?_
    refine sdo A (uh (j := 0) M hH o93 rfl rfl rfl) λa A↦?_
    rcases tf ((d.k == 8)) with hb23 | hb23
    ·
     have hb23' := eq_of_beq hb23
     refine sdc A qj hb23 λa A↦?_
     iterate 2 refine sdm A λa A↦?_
     rcases tf ((((i : Nat) : Int) == 1)) with hb24 | hb24
     ·
      have hb24' := eq_of_beq hb24
      refine sdc A qj hb24 λa A↦?_
      refine sdk (v := bV true) A λa A↦?_
      refine qa (hK22 _ _ (ct A ?_))
      refine wrl (sdm A λa A↦?_)
      refine sda A λa A↦?_
      refine qa (hK21 _ _ (wsk fun K25 hK25 => ?_))
      obtain ⟨t1, b1, o1, hi1, hm1, hr1, hl1, hH1⟩ := kid hrd (i := i) (by omega)
      have hD : (if decide (d.k = 8) = true ∧ i = 1 then dp else dp + 1) = dp := if_pos ⟨decide_eq_true hb23', by omega⟩
      refine wrl (sdm A λa A↦?_)
      refine sdo A (ju rfl) λa A↦?_
      refine sdo (v := pA b (o + 10)) A (qe kr rfl rfl) λa A↦?_
      refine sdo A (uh (j := 10) M hH qhc rfl rfl rfl) λa A↦?_
      refine sdm A λa A↦?_
      refine sdo (v := pA b1 (o1 + i * 11)) A (xb (k := i) Tryz.underlying28 (by kernel_rfl) rfl rfl rfl hl1 (by omega)) λa A↦?_
      iterate 2 refine sdm A λa A↦?_
      refine sct A (ef rfl rfl) (ih t1 hm1 hr1 hH1 M (by omega) (by omega) (by omega) (by omega)) ?_
      rintro _ w27 ⟨rfl, hM26⟩
      replace M : Mg w0 w27 (.obj gl (.cells #[iV ((jw (dp) m t1.tr).2)] 3) :: T) := hM26
      refine ⟨_, rfl, ?_⟩
      intro a A
      refine sdo (v := bV (!((jw (dp) m t1.tr).1))) A (zi rfl zr) λa A↦?_
      refine qa (hK25 _ _ ?_)
      refine wp_cond_split (t := !((jw (dp) m t1.tr).1)) (A.ev rfl) (fun hc28 => ?_) (fun hc28 => ?_)
      ·
       refine wsk fun K29 hK29 => wrl (sda A λa A↦?_)
       refine qa (hK29 _ _ (wr1 hret A ?_))
       have hr9 : (jw (dp) m t1.tr).1 = false := by simpa using hc28
       have e9 : jw dp left (Dt.mk d ts).tr = (false, (jw (dp) m t1.tr).2) := by rw [qhh (by omega) (by omega), hin9, qfg hi1 hD hr9]
       rw [e9]
       exact ⟨rfl, M⟩
      ·
       refine wp_skip (hK18 _ _ (wrl (sdo (v := iV (((i + 1 : Nat) : Int))) A (qb rfl rfl (fun w => (yi (uz (by omega) (by omega)) w).trans (by rw [show (((i : Nat) : Int) + 1 : Int) = ((i + 1 : Nat) : Int) from by omega]))) λa A↦?_)))
       refine sdm A λa A↦?_
       refine qa ?_
       have hr9 : (jw (dp) m t1.tr).1 = true := by simpa using hc28
       have hp9 := qoa t1.tr _ _ hr9
       have hl9 := qyb t1.tr (dp) m
       refine hK13 _ _ _ (by omega) ⟨i + 1, (jw (dp) m t1.tr).2, rfl, ⟨by omega, by rw [hin9, qoc hi1 hD hr9], by omega, by omega⟩, A.keep _ (by repeat' constructor), M⟩
     ·
      have hb24' := ne_of_beq_false hb24
      refine sdc A qj hb24 λa A↦?_
      refine sdk (v := bV false) A λa A↦?_
      refine qa (hK22 _ _ (cf A ?_))
      refine wp_skip (hK21 _ _ (wsk fun K30 hK30 => ?_))
      obtain ⟨t1, b1, o1, hi1, hm1, hr1, hl1, hH1⟩ := kid hrd (i := i) (by omega)
      have hD : (if decide (d.k = 8) = true ∧ i = 1 then dp else dp + 1) = dp + 1 := if_neg (fun e => by omega)
      refine wrl (sdm A λa A↦?_)
      refine sdo A (ju rfl) λa A↦?_
      refine sdo (v := pA b (o + 10)) A (qe kr rfl rfl) λa A↦?_
      refine sdo A (uh (j := 10) M hH qhc rfl rfl rfl) λa A↦?_
      refine sdm A λa A↦?_
      refine sdo (v := pA b1 (o1 + i * 11)) A (xb (k := i) Tryz.underlying28 (by kernel_rfl) rfl rfl rfl hl1 (by omega)) λa A↦?_
      iterate 2 refine sdm A λa A↦?_
      refine sct A (ef rfl rfl) (ih t1 hm1 hr1 hH1 M (by omega) (by omega) (by omega) (by omega)) ?_
      rintro _ w32 ⟨rfl, hM31⟩
      replace M : Mg w0 w32 (.obj gl (.cells #[iV ((jw (dp + 1) m t1.tr).2)] 3) :: T) := hM31
      refine ⟨_, rfl, ?_⟩
      intro a A
      refine sdo (v := bV (!((jw (dp + 1) m t1.tr).1))) A (zi rfl zr) λa A↦?_
      refine qa (hK30 _ _ ?_)
      refine wp_cond_split (t := !((jw (dp + 1) m t1.tr).1)) (A.ev rfl) (fun hc33 => ?_) (fun hc33 => ?_)
      ·
       refine wsk fun K34 hK34 => wrl (sda A λa A↦?_)
       refine qa (hK34 _ _ (wr1 hret A ?_))
       have hr9 : (jw (dp + 1) m t1.tr).1 = false := by simpa using hc33
       have e9 : jw dp left (Dt.mk d ts).tr = (false, (jw (dp + 1) m t1.tr).2) := by rw [qhh (by omega) (by omega), hin9, qfg hi1 hD hr9]
       rw [e9]
       exact ⟨rfl, M⟩
      ·
       refine wp_skip (hK18 _ _ (wrl (sdo (v := iV (((i + 1 : Nat) : Int))) A (qb rfl rfl (fun w => (yi (uz (by omega) (by omega)) w).trans (by rw [show (((i : Nat) : Int) + 1 : Int) = ((i + 1 : Nat) : Int) from by omega]))) λa A↦?_)))
       refine sdm A λa A↦?_
       refine qa ?_
       have hr9 : (jw (dp + 1) m t1.tr).1 = true := by simpa using hc33
       have hp9 := qoa t1.tr _ _ hr9
       have hl9 := qyb t1.tr (dp + 1) m
       refine hK13 _ _ _ (by omega) ⟨i + 1, (jw (dp + 1) m t1.tr).2, rfl, ⟨by omega, by rw [hin9, qoc hi1 hD hr9], by omega, by omega⟩, A.keep _ (by repeat' constructor), M⟩
    ·
     have hb23' := ne_of_beq_false hb23
     refine sdc A qj hb23 λa A↦?_
     refine sdm A λa A↦?_
     iterate 2 refine qf A rfl rfl rfl λa A↦?_
     refine sdk (v := bV false) A λa A↦?_
     refine qa (hK22 _ _ (cf A ?_))
     refine wp_skip (hK21 _ _ (wsk fun K35 hK35 => ?_))
     obtain ⟨t1, b1, o1, hi1, hm1, hr1, hl1, hH1⟩ := kid hrd (i := i) (by omega)
     have hD : (if decide (d.k = 8) = true ∧ i = 1 then dp else dp + 1) = dp + 1 := if_neg (fun e => hb23' (of_decide_eq_true e.1))
     refine wrl (sdm A λa A↦?_)
     refine sdo A (ju rfl) λa A↦?_
     refine sdo (v := pA b (o + 10)) A (qe kr rfl rfl) λa A↦?_
     refine sdo A (uh (j := 10) M hH qhc rfl rfl rfl) λa A↦?_
     refine sdm A λa A↦?_
     refine sdo (v := pA b1 (o1 + i * 11)) A (xb (k := i) Tryz.underlying28 (by kernel_rfl) rfl rfl rfl hl1 (by omega)) λa A↦?_
     iterate 2 refine sdm A λa A↦?_
     refine sct A (ef rfl rfl) (ih t1 hm1 hr1 hH1 M (by omega) (by omega) (by omega) (by omega)) ?_
     rintro _ w37 ⟨rfl, hM36⟩
     replace M : Mg w0 w37 (.obj gl (.cells #[iV ((jw (dp + 1) m t1.tr).2)] 3) :: T) := hM36
     refine ⟨_, rfl, ?_⟩
     intro a A
     refine sdo (v := bV (!((jw (dp + 1) m t1.tr).1))) A (zi rfl zr) λa A↦?_
     refine qa (hK35 _ _ ?_)
     refine wp_cond_split (t := !((jw (dp + 1) m t1.tr).1)) (A.ev rfl) (fun hc38 => ?_) (fun hc38 => ?_)
     ·
      refine wsk fun K39 hK39 => wrl (sda A λa A↦?_)
      refine qa (hK39 _ _ (wr1 hret A ?_))
      have hr9 : (jw (dp + 1) m t1.tr).1 = false := by simpa using hc38
      have e9 : jw dp left (Dt.mk d ts).tr = (false, (jw (dp + 1) m t1.tr).2) := by rw [qhh (by omega) (by omega), hin9, qfg hi1 hD hr9]
      rw [e9]
      exact ⟨rfl, M⟩
     ·
      refine wp_skip (hK18 _ _ (wrl (sdo (v := iV (((i + 1 : Nat) : Int))) A (qb rfl rfl (fun w => (yi (uz (by omega) (by omega)) w).trans (by rw [show (((i : Nat) : Int) + 1 : Int) = ((i + 1 : Nat) : Int) from by omega]))) λa A↦?_)))
      refine sdm A λa A↦?_
      refine qa ?_
      have hr9 : (jw (dp + 1) m t1.tr).1 = true := by simpa using hc38
      have hp9 := qoa t1.tr _ _ hr9
      have hl9 := qyb t1.tr (dp + 1) m
      refine hK13 _ _ _ (by omega) ⟨i + 1, (jw (dp + 1) m t1.tr).2, rfl, ⟨by omega, by rw [hin9, qoc hi1 hD hr9], by omega, by omega⟩, A.keep _ (by repeat' constructor), M⟩
   ·
    have hb16' := of_decide_eq_false hb16
    refine sdc A jk hb16 λa A↦?_
    refine qa (hK15 _ _ (wsk fun K40 hK40 => wp_cond_false (A.ev rfl) ?_))
    refine wp_exit (hK10 _ _ (wsk fun K41 hK41 => wrl (sda A λa A↦?_)))
    refine qa (hK41 _ _ (wr1 hret A ?_))
    have e9 : jw dp left (Dt.mk d ts).tr = (true, m) := by rw [qhh (by omega) (by omega), hin9, qff (by omega), qbg]
    rw [e9]
    exact ⟨rfl, M⟩
def Tabs8 (w : World) : Prop := Lib.Utf8Tabs (Tryz.laysValid_ren.g 3) (Tryz.laysValid_ren.g 4) w
theorem Tabs8.below {w w' : World} (h : Tabs8 w) (hb : Below w.heap.size w w') : Tabs8 w' := Utf8Tabs_below h hb
theorem zha {w : World} {s : ByteArray} (hs : s.size ≤ 9223372036854775807) (hT : Tabs8 w) {b : Bool} (h : okS s = b) : Calls Tryz.prog 24 #[.string s] w fun e w' => e = .returned (bV b) ∧ Below w.heap.size w w' := h ▸ Any.utf8_ValidString Tryz.laysValid s w hs hT
theorem zhb {w : World} {r : Int} : Calls Tryz.prog 67 #[.int .i32 r] w fun e w' => e = .returned (bV (Lib.validRune r)) ∧ Below w.heap.size w w' := (Tryz.utf8_ValidRune r w).mono fun e w' ⟨h, e2⟩ => ⟨h, e2 ▸ Below.refl _ _⟩
theorem qof {P : Program} {s d : TypeId} (hs : P.underlying s = some (.int .i64)) (hd : P.underlying d = some (.int .i32)) {n : Int} (h0 : 0 ≤ n) (h1 : n ≤ 1114111) : ∀ w, (convert s d (iV n)).run P w = .ok (.int .i32 n) w := fun w => by
 simp [go_sem, run_underlying hs, run_underlying hd, convert]
 exact in_i32 (by omega) (by omega)
theorem zlj {w : World} {n : Int} : Calls Tryz.prog 43 #[iV n] w fun e w' => e = .returned (bV (ku n)) ∧ Below w.heap.size w w' := by
 have M : Mg w w ([]) := Mg.start w
 refine qw (l := [(0, iV n)]) Tryz.func43 rfl Tryz.ntmps43 rfl rfl ?_
 intro Q hret hnorm hP a A
 refine wsk fun K1 hK1 => wrl (sda A λa A↦?_)
 refine qa (hK1 _ _ (wsk fun K2 hK2 => wrl (sdm A λa A↦?_)))
 rcases tf (decide (0 ≤ n)) with hb3 | hb3
 ·
  have hb3' := of_decide_eq_true hb3
  refine sdc A jo hb3 λa A↦?_
  iterate 2 refine sdm A λa A↦?_
  rcases tf (decide (n ≤ 1114111)) with hb4 | hb4
  ·
   have hb4' := of_decide_eq_true hb4
   refine sdc A jl hb4 λa A↦?_
   refine sdk (v := bV true) A λa A↦?_
   iterate 2 refine sdm A λa A↦?_
   refine sdo (v := .int .i32 n) A (zy rfl (qof Tryz.underlying3 Tryz.underlying21 (by omega) (by omega))) λa A↦?_
   refine gcl A M (ef rfl rfl) (zhb) fun w5 hbv M a A => ?_
   refine sdo (v := bV (Lib.validRune n)) A (zx rfl rfl rfl rfl) λa A↦?_
   refine sda A λa A↦?_
   refine qa (hK2 _ _ (wr1 hret A ?_))
   exact ⟨by rw [show ku n = Lib.validRune n from by unfold ku; unfold Lib.validRune; exact decide_eq_decide.2 (by omega)], M.bel⟩
  ·
   have hb4' := of_decide_eq_false hb4
   refine sdc A jl hb4 λa A↦?_
   refine sdk (v := bV false) A λa A↦?_
   refine sdm A λa A↦?_
   iterate 3 refine qf A rfl rfl rfl λa A↦?_
   refine sdk (v := bV false) A λa A↦?_
   refine sda A λa A↦?_
   refine qa (hK2 _ _ (wr1 hret A ?_))
   exact ⟨by rw [show ku n = false from by unfold ku; apply decide_eq_false; omega], M.bel⟩
 ·
  have hb3' := of_decide_eq_false hb3
  refine sdc A jo hb3 λa A↦?_
  refine sdm A λa A↦?_
  iterate 2 refine qf A rfl rfl rfl λa A↦?_
  refine sdk (v := bV false) A λa A↦?_
  refine sdm A λa A↦?_
  iterate 3 refine qf A rfl rfl rfl λa A↦?_
  refine sdk (v := bV false) A λa A↦?_
  refine sda A λa A↦?_
  refine qa (hK2 _ _ (wr1 hret A ?_))
  exact ⟨by rw [show ku n = false from by unfold ku; apply decide_eq_false; omega], M.bel⟩
def qdd (l : List UInt8) : Option Nat := (C.puX l).bind fun u => if (decide (((l.length : Nat) : Int) ≤ 8) && ku ((u : Nat) : Int)) = true then some u else none
theorem zxi {l : List UInt8} (h : C.puX l = none) : qdd l = none := by unfold qdd; rw [h]; rfl
theorem qje {l : List UInt8} {u : Nat} {b : Bool} (h : C.puX l = some u) (hb : (decide (((l.length : Nat) : Int) ≤ 8) && ku ((u : Nat) : Int)) = b) : qdd l = if b = true then some u else none := by unfold qdd; rw [h]; show (if _ then _ else _) = _; rw [hb]
theorem jdh {w : World} {l : List UInt8} {u : Nat} (hl : l.length ≤ 1000000000) (hE : C.Er w) (h : C.puX l = some u) : Calls Tryz.prog 117 #[.string (tx l), iV 16, iV 32] w fun e w' => e = .returned (.tuple #[.int .u64 ((u : Nat) : Int), .nilIface]) ∧ u ≤ 4294967295 ∧ Below w.heap.size w w' :=
 (C.pu_any (tx l) (by rw [xg]; omega) w hE).mono fun e w' ⟨h1, hb⟩ => by
  rw [xi, h] at h1
  obtain ⟨v, e1, e2, rfl⟩ | ⟨e1, _⟩ := h1
  ·
   cases e1
   exact ⟨rfl, e2, hb⟩
  ·
   cases e1
theorem jdi {w : World} {l : List UInt8} (hl : l.length ≤ 1000000000) (hE : C.Er w) (h : C.puX l = none) : Calls Tryz.prog 117 #[.string (tx l), iV 16, iV 32] w fun e w' => (∃ (v : Int) (ty : TypeId) (q : Value), e = .returned (.tuple #[.int .u64 v, .iface ty q])) ∧ Below w.heap.size w w' :=
 (C.pu_any (tx l) (by rw [xg]; omega) w hE).mono fun e w' ⟨h1, hb⟩ => by
  rw [xi, h] at h1
  obtain ⟨v, e1, e2, rfl⟩ | ⟨e1, h2⟩ := h1
  ·
   cases e1
  ·
   exact ⟨h2, hb⟩
theorem zdi {w : World} {n : Int} {b : Bool} (h : ku n = b) : Calls Tryz.prog 43 #[iV n] w fun e w' => e = .returned (bV b) ∧ Below w.heap.size w w' := h ▸ zlj
theorem zsf {P : Program} {t ty : TypeId} {x y : Operand} {q : Value} (h : P.underlying t = some (.interface (P.methodsAt t))) : ∀ w, (do eqGuard .eql t x y (.iface ty q) .nilIface; binOp .eql t (.iface ty q) .nilIface : Sem Value).run P w = .ok (bV false) w := fun w => by simp [go_sem, run_eql_held_nil w t ty q h]
theorem qyg {P : Program} {s d : TypeId} (hs : P.underlying s = some (.int .u64)) (hd : P.underlying d = some (.int .i64)) {n : Int} (h0 : 0 ≤ n) (h1 : n ≤ 4294967295) : ∀ w, (convert s d (.int .u64 n)).run P w = .ok (iV n) w := fun w => by
 simp [go_sem, run_underlying hs, run_underlying hd, convert]
 exact in_i64 (by omega) (by omega)
theorem qyh {P : Program} {s d : TypeId} (hs : P.underlying s = some (.int .u64)) (hd : P.underlying d = some (.int .i32)) {n : Int} (h0 : 0 ≤ n) (h1 : n ≤ 1114111) : ∀ w, (convert s d (.int .u64 n)).run P w = .ok (.int .i32 n) w := fun w => by
 simp [go_sem, run_underlying hs, run_underlying hd, convert]
 exact in_i32 (by omega) (by omega)
theorem jba {w : World} {l : List UInt8} (hE : C.Er w) (hl : l.length ≤ 1000000000) {u : Nat} (hu : C.puX l = some u) : Calls Tryz.prog 90 #[.string (tx l)] w fun e w' => (e = .panicked flt ∧ qdd l = none ∧ Below w.heap.size w w') ∨ ∃ c, e = .returned (.int .i32 ((c : Nat) : Int)) ∧ (qdd l = some c ∧ ku ((c : Nat) : Int) = true) ∧ Below w.heap.size w w' := by
 have M : Mg w w ([]) := Mg.start w
 refine jr (l := [(0, .string ((tx l)))]) Tryz.func90 rfl Tryz.ntmps90 rfl rfl ?_
 intro Q hret hnorm hP hX a A
 refine wsk fun K1 hK1 => wrl (sda A λa A↦?_)
 refine qa (hK1 _ _ (wsk fun K2 hK2 => wrl (sdm A λa A↦?_)))
 refine sct A (ef rfl rfl) (jdh (l := l) (u := u) (by omega) (hE.below M.bel) hu) ?_
 rintro _ w4 ⟨rfl, hul, hb3⟩
 replace M := M.call hb3
 refine ⟨_, rfl, ?_⟩
 intro a A
 refine sdm A λa A↦?_
 iterate 2 refine sdo A (qi (vs := [.int .u64 (((u : Nat) : Int)), .nilIface]) rfl rfl) λa A↦?_
 iterate 2 refine sda A λa A↦?_
 refine qa (hK2 _ _ (wsk fun K5 hK5 => wrl (sdm A λa A↦?_)))
 refine sdo (v := bV true) A dbK λa A↦?_
 iterate 2 refine sdm A λa A↦?_
 refine sdo (v := iV (((l.length : Nat) : Int))) A (qy (s := l) Tryz.underlying9 rfl) λa A↦?_
 rcases tf (decide (((l.length : Nat) : Int) ≤ 8)) with hb6 | hb6
 ·
  have hb6' := of_decide_eq_true hb6
  refine sdc A jl hb6 λa A↦?_
  refine sdk (v := bV true) A λa A↦?_
  iterate 2 refine sdm A λa A↦?_
  refine sdo (v := iV (((u : Nat) : Int))) A (zy rfl (qyg Tryz.underlying94 Tryz.underlying3 (by omega) (by omega))) λa A↦?_
  rcases tf (ku ((u : Nat) : Int)) with hb8 | hb8
  ·
   refine sct A (ef rfl rfl) (zdi hb8) ?_
   rintro _ w10 ⟨rfl, hb9⟩
   have hch := of_decide_eq_true hb8
   replace M := M.call hb9
   refine ⟨_, rfl, ?_⟩
   intro a A
   refine sdk (v := bV true) A λa A↦?_
   refine gcl A M (ef rfl rfl) (vp) fun w12 hb11 M a A => ?_
   refine qa (hK5 _ _ (wsk fun K13 hK13 => wrl (sdm A λa A↦?_)))
   refine sdo (v := .int .i32 (((u : Nat) : Int))) A (zy rfl (qyh Tryz.underlying94 Tryz.underlying21 (by omega) (by omega))) λa A↦?_
   refine sda A λa A↦?_
   refine qa (hK13 _ _ (wr1 hret A ?_))
   exact .inr ⟨u, rfl, ⟨by rw [qje hu (b := true) (by rw [hb6, hb8]; rfl)]; rfl, hb8⟩, M.bel⟩
  ·
   refine gcl A M (ef rfl rfl) (zdi hb8) fun w15 hb14 M a A => ?_
   refine sdk (v := bV false) A λa A↦?_
   refine qz A rfl rfl rfl (ef rfl rfl) (xr) ?_
   rintro _ w17 ⟨rfl, hp18⟩
   exact .inl ⟨_, rfl, hX _ _ _ _ _ A (.inl ⟨rfl, by rw [qje hu (b := false) (by rw [hb6, hb8]; rfl)]; rfl, M.bel.trans (hp18.mono M.bel.size)⟩)⟩
 ·
  have hb6' := of_decide_eq_false hb6
  refine sdc A jl hb6 λa A↦?_
  refine sdk (v := bV false) A λa A↦?_
  refine sdm A λa A↦?_
  iterate 3 refine qf A rfl rfl rfl λa A↦?_
  refine sdk (v := bV false) A λa A↦?_
  refine qz A rfl rfl rfl (ef rfl rfl) (xr) ?_
  rintro _ w20 ⟨rfl, hp21⟩
  exact .inl ⟨_, rfl, hX _ _ _ _ _ A (.inl ⟨rfl, by rw [qje hu (b := false) (by rw [hb6]; rfl)]; rfl, M.bel.trans (hp21.mono M.bel.size)⟩)⟩
theorem jbb {w : World} {l : List UInt8} (hE : C.Er w) (hl : l.length ≤ 1000000000) (hu : C.puX l = none) : Calls Tryz.prog 90 #[.string (tx l)] w fun e w' => (e = .panicked flt ∧ qdd l = none ∧ Below w.heap.size w w') ∨ ∃ c, e = .returned (.int .i32 ((c : Nat) : Int)) ∧ (qdd l = some c ∧ ku ((c : Nat) : Int) = true) ∧ Below w.heap.size w w' := by
 have M : Mg w w ([]) := Mg.start w
 refine jr (l := [(0, .string ((tx l)))]) Tryz.func90 rfl Tryz.ntmps90 rfl rfl ?_
 intro Q hret hnorm hP hX a A
 refine wsk fun K1 hK1 => wrl (sda A λa A↦?_)
 refine qa (hK1 _ _ (wsk fun K2 hK2 => wrl (sdm A λa A↦?_)))
 refine sct A (ef rfl rfl) (jdi (l := l) (by omega) (hE.below M.bel) hu) ?_
 rintro _ w4 ⟨⟨v, ty, q, rfl⟩, hb3⟩
 replace M := M.call hb3
 refine ⟨_, rfl, ?_⟩
 intro a A
 refine sdm A λa A↦?_
 iterate 2 refine sdo A (qi (vs := [.int .u64 v, .iface ty q]) rfl rfl) λa A↦?_
 iterate 2 refine sda A λa A↦?_
 refine qa (hK2 _ _ (wsk fun K5 hK5 => wrl (sdm A λa A↦?_)))
 refine sdo (v := bV false) A (qb rfl rfl (zsf Tryz.underlying85)) λa A↦?_
 refine sdm A λa A↦?_
 iterate 3 refine qf A rfl rfl rfl λa A↦?_
 refine sdk (v := bV false) A λa A↦?_
 refine sdm A λa A↦?_
 iterate 3 refine qf A rfl rfl rfl λa A↦?_
 refine sdk (v := bV false) A λa A↦?_
 refine qz A rfl rfl rfl (ef rfl rfl) (xr) ?_
 rintro _ w7 ⟨rfl, hp8⟩
 exact .inl ⟨_, rfl, hX _ _ _ _ _ A (.inl ⟨rfl, zxi hu, M.bel.trans (hp8.mono M.bel.size)⟩)⟩
theorem zdj {w : World} {l : List UInt8} (hE : C.Er w) (hl : l.length ≤ 1000000000) : Calls Tryz.prog 90 #[.string (tx l)] w fun e w' => (e = .panicked flt ∧ qdd l = none ∧ Below w.heap.size w w') ∨ ∃ c, e = .returned (.int .i32 ((c : Nat) : Int)) ∧ (qdd l = some c ∧ ku ((c : Nat) : Int) = true) ∧ Below w.heap.size w w' := by
 cases hu : C.puX l with
 | none => exact jbb hE hl hu
 | some u => exact jba hE hl hu
end Go.Proofs.YtclkfideaameoaaGreatDoor.G
