/- Pn Pt ShelfR RdA RdB RdD ChM ChA ShelfD ShelfB ChD ChE ChF ChR RdE RdF Ps ShelfI ChS RdG RdH ShelfP ChU ChV Tn Tr Ts TrA TrB RdI RdJ ShelfW RdK ShelfC Tw TwR Tv Qr Tk Or -/
import Derived.Test.YtjhkejihhpnooaaGreatDoorPdatums11f
import Derived.Shelf.Strings.Builder1
import Derived.Shelf.Small.Utf8
import Derived.Shelf.Small.Bits
import Derived.Shelf.Small.Strs
import Derived.Shelf.Small.Wraps
import Derived.Shelf.Strings.BuilderF
import Derived.Shelf.Strings.BuilderK
import Derived.Shelf.Strings.BuilderRune
import Derived.Shelf.Utf8.AppendRune
import Derived.Shelf.Utf8.AppendRunePlain
import Derived.Shelf.Utf8.RuneCount
import Derived.Shelf.Strconv.Itoa0
import Derived.Shelf.Strconv.Itoa1
import Derived.Shelf.LaysM
import Derived.Shelf.Strconv.Itoa2
import Derived.Shelf.Strconv.Itoa3
import Derived.Shelf.Strconv.Clone
import Derived.Shelf.Strconv.SyntaxError
import Derived.Shelf.LaysC
import Derived.Shelf.Strconv.ToError
import Derived.Shelf.Strconv.Lower
import Derived.Shelf.Strconv.RangeError
import Derived.Shelf.Strconv.ToErrorRange
import Derived.Shelf.Strings.Search1
import Derived.Shelf.Strings.Search2
import Derived.Shelf.Strings.Cut
import Derived.Shelf.Strings.Shaped
import Derived.Shelf.Strings.Prefix
import Derived.Shelf.Strings.Runes
import Derived.Shelf.Strings.RuneCount
import Derived.Shelf.Strings.IndexAny
import Derived.Shelf.Strings.AsciiSet
import Derived.Shelf.Strings.IndexAnyAll
import Derived.Shelf.Unicode.DecodeSlow
import Derived.Shelf.Unicode.DecodeAny
import Derived.Test.YtjhkejihhpnooaaGreatDoorProg
import Derived.Lib.RuneBytes
import Derived.RowKit
import Derived.WalkKit
import Derived.WalkSpells
import Derived.Deep.Light
import Derived.Shelf.Unicode.ValidAny
import Derived.Lib.TrimAscii
import Derived.Test.YtjhkejihhpnooaaGreatDoorShelf
import Derived.Laws.Runes
import Derived.Laws.Strings3
import Derived.Scope
import Derived.Shelf.RegionOpenPlain
import Derived.ScopeJumps
import Derived.Ground.Names2Prog
import Derived.Shelf.Slices.SearchI
import Derived.Ground.SlgnProg
import Derived.Shelf.SlicesE.Clone
import Derived.Lib.TrimUEq
import Derived.Lib.OthersKept
import Derived.Test.YtjhkejihhpnooaaGreatDoorOwn
import Derived.Lib.Strings
import Derived.Lib.Walk
import Derived.Lib.ConvBytes
import Derived.Lib.ParseIntBMem
import Derived.Lib.Hide
import Derived.Laws.Closers25
import Derived.Laws.Closers25b
import Derived.BigCall
import Derived.BigGuard
import Derived.Test.YtjhkejihhpnooaaGreatDoorPdatums11d
import Derived.Test.YtjhkejihhpnooaaGreatDoorPdatums11g
import Derived.Lib.ValidU
import Derived.Laws.Externs
import Derived.Lib.Builder
import Derived.Lib.UnsafeStr
import Derived.Lib.AppendStr
import Derived.Lib.Bytealg
set_option linter.unusedVariables false
set_option linter.unusedSimpArgs false
set_option maxHeartbeats 1000000
namespace Go.Proofs.YtjhkejihhpnooaaGreatDoor.G
open Go.RowKit
section
variable {P:Program} {ops:List Oper} {Q:Exit→Act→World→Prop} {a:Act} {w:World} {n:Nat} {l:List (Nat×Value)} {o:Oper} {rest:List Oper}
theorem qy(hA:Sl a n l)(hg:zf l ops o=true){d:Nat}(hdst:o.dst=some d)(hd:Nat.blt d n=true){f:FuncId}{vs:List Value}(he:Enters P l o w f vs)
    {R:Ending→World→Prop} (hc:Calls P f vs.toArray w R)
    (hk:∀e w',R e w'→(∃ch,e=.panicked ch∧Q (.panic ch) a w')∨∃v,e=.returned v∧∀a',Sl a' n ((d,v)::l)→wpList P ops.toArray Q rest a' w'):wpList P ops.toArray Q (o::rest) a w:=by
  unfold wpList;rw[if_pos (hA.wanted hg)];refine .inl ?_;unfold Oper.wp;rw[he a.eval (fun x u hx=>hA.ev hx),Oper.upon_enter];refine hc.mono ?_;intro e w' hR;rcases hk e w' hR with⟨ch,rfl,h⟩ | ⟨v,rfl,h⟩
  · exact h
  · simp only[hdst];exact h _ (hA.put hd v)
theorem zqe(hA:Sl a n l)(hg:zf l ops o=true){v:Value}(he:∀ρ:Operand→Value,(∀x u,ev l x=some u→ρ x=u)→(execOp ρ o).run P w=.halt (.panic v) w)(hk:Q (.panic [{ v:=v,recovered:=false }]) a w):wpList P ops.toArray Q (o::rest) a w:=by
  unfold wpList;rw[if_pos (hA.wanted hg)];refine .inl ?_;unfold Oper.wp;rw[he a.eval (fun x u hx=>hA.ev hx),Oper.upon_panic];exact hk
theorem jr{f:FuncId}{fn:Func}{c:Code}{args:List Value}{Z:Ending→World→Prop}(hf:P.funcs[f]?=some fn)(hb:fn.body=some c)(hn:fn.ntmps=n)(hl:Nat.ble args.length n=true)(hs:(args.zipIdx.map fun p=>(p.2,p.1))=l)
    (h:∀Q:Exit→Act→World→Prop,(∀a w,bodyPost P fn Z .ret a w→Q .ret a w)→(∀a w,bodyPost P fn Z .ret a w→Q .normal a w)→(∀c a d v w,Q (.panic c) (Act.put a d v) w→Q (.panic c) a w)→(∀ch a w m k,Sl a m k→Z (.panicked ch) w→Q (.panic ch) a w)→∀a,Sl a n l→c.wp P Q a w):Calls P f args.toArray w Z:=by
  subst hs;refine calls_of_wp hf hb (h _ (fun _ _ h=>h) (fun _ _ h=>h) (fun c a d v w h=>?_) (fun ch a w m k hA hz=>⟨hA.none_,hz⟩) _ ?_)
  · cases d<;>exact h
  · rw[hn];exact Sl.enter (Nat.le_of_ble_eq_true hl)
end
def tx(l:List UInt8):ByteArray:=⟨l.toArray⟩
abbrev rC(L:List UInt8)(p:Nat)(b:Bool):Obj:=.cells #[.string (tx L),.int .i64 ((p:Nat):Int),.bool b] 50
theorem jje(s:ByteArray):tx s.data.toList=s:=by unfold tx; cases s; simp
theorem xb(l:List UInt8):(tx l).size=l.length:=by unfold tx; simp[ByteArray.size]
theorem xl(l:List UInt8):(tx l).data.toList=l:=by unfold tx; simp
section
variable {P:Program} {l:List (Nat×Value)} {dst:Option Tmp} {ty t:TypeId} {pos:String} {after:Array Edge} {guard:Option (Nat×Bool)} {w:World} {x y z:Operand} {s:List UInt8}
theorem xx(ht:P.underlying t=some .string)(hx:ev l x=some (.string (tx s))):Does P l ⟨dst,.call ⟨.builtin .len,#[x],#[t]⟩,ty,pos,after,guard⟩ w (.int .i64 ((s.length:Nat):Int)) w:=fun ρ h=>by
  have:=h x _ hx;rw[←xb];simp[go_sem,this,Builtin.len_,run_underlying ht,goInt]
theorem qad{i:Nat}{k:Int}{b:UInt8}(ht:P.underlying t=some .string)(hx:ev l x=some (.string (tx s)))(hy:ev l y=some (.int .i64 k))(hk:k=((i:Nat):Int))(hi:s[i]?=some b):Does P l ⟨dst,.index t x y,ty,pos,after,guard⟩ w (.int .u8 ((b.toNat:Nat):Int)) w:=fun ρ h=>by
  subst hk;have:=run_index_string (P:=P) w t (tx s) .i64 ((i:Nat):Int) ht;have hl:=(List.getElem?_eq_some_iff.1 hi).1;have hi':i<(tx s).size:=by rw[xb]; exact hl
  have e:b.toNat=((tx s)[i]'hi').toNat:=by
    have h2:=(List.getElem?_eq_some_iff.1 hi).2;rw[←h2];simp[tx,ByteArray.getElem_eq_getElem_data]
  rw[e];simp[execOp,h x _ hx,h y _ hy,this,hi']
theorem zfi(s:List UInt8)(a b:Nat)(hb:b≤s.length):(tx s).extract a b=tx ((s.take b).drop a):=by
  apply ByteArray.ext;rw[ByteArray.data_extract];simp[tx,List.drop_take]
theorem vy{p:Nat}{k:Int}(ht:P.underlying t=some .string)(hx:ev l x=some (.string (tx s)))(hy:ev l y=some (.int .i64 k))(hk:k=((p:Nat):Int))(hp:p≤s.length):Does P l ⟨dst,.slice t x (some y) none none,ty,pos,after,guard⟩ w (.string (tx (s.drop p))) w:=fun ρ h=>by
  subst hk;have e:tx (s.drop p)=(tx s).extract p (tx s).size:=by rw[xb,zfi _ _ _ (Nat.le_refl _),List.take_length]
  rw[e];have h0:p≤(tx s).size:=by rw[xb]; exact hp
  have h1:(0:Int)≤(p:Nat)∧((p:Nat):Int)≤((tx s).size:Int):=⟨by omega,by omega⟩;simp[execOp,h x _ hx,h y _ hy,Instr.sliceAt,Instr.slice,Instr.sliceBounds,Instr.sliceBound,asIntOf,run_underlying ht,h1];try (intro hc; omega)
theorem qge{p:Nat}{k:Int}(ht:P.underlying t=some .string)(hx:ev l x=some (.string (tx s)))(hy:ev l y=some (.int .i64 k))(hk:k=((p:Nat):Int))(hp:p≤s.length):Does P l ⟨dst,.slice t x none (some y) none,ty,pos,after,guard⟩ w (.string (tx (s.take p))) w:=fun ρ h=>by
  subst hk;have e:tx (s.take p)=(tx s).extract 0 p:=by rw[zfi _ _ _ hp,List.drop_zero]
  rw[e];have h0:p≤(tx s).size:=by rw[xb]; exact hp
  have h1:(0:Int)≤(p:Nat)∧((p:Nat):Int)≤((tx s).size:Int):=⟨by omega,by omega⟩;simp[execOp,h x _ hx,h y _ hy,Instr.sliceAt,Instr.slice,Instr.sliceBounds,Instr.sliceBound,asIntOf,run_underlying ht,h1];try (intro hc; omega)
theorem zfj{p q:Nat}{k m:Int}(ht:P.underlying t=some .string)(hx:ev l x=some (.string (tx s)))(hy:ev l y=some (.int .i64 k))(hz:ev l z=some (.int .i64 m))(hk:k=((p:Nat):Int))(hm:m=((q:Nat):Int))(hp:p≤q)(hq:q≤s.length):Does P l ⟨dst,.slice t x (some y) (some z) none,ty,pos,after,guard⟩ w (.string (tx ((s.take q).drop p))) w:=fun ρ h=>by
  subst hk hm;have e:tx ((s.take q).drop p)=(tx s).extract p q:=by rw[zfi _ _ _ hq]
  rw[e];have h0:q≤(tx s).size:=by rw[xb]; exact hq
  have h1:(0:Int)≤(p:Nat)∧((p:Nat):Int)≤((q:Nat):Int)∧((q:Nat):Int)≤((tx s).size:Int):=⟨by omega,by omega,by omega⟩;have h2:(0:Int)≤(q:Nat):=by omega
  simp[execOp,h x _ hx,h y _ hy,h z _ hz,Instr.sliceAt,Instr.slice,Instr.sliceBounds,Instr.sliceBound,asIntOf,run_underlying ht,h1,h2];rw[if_pos h0,if_pos hp]
theorem ja{a:Addr}(hx:ev l x=some (.pointer (some a))):Does P l ⟨dst,.nilCheck x,ty,pos,after,guard⟩ w (.pointer (some a)) w:=fun ρ h=>by
  simp only[execOp,h x _ hx,Sem.run_pure]
variable {a b:List UInt8}
theorem jjf(a b:List UInt8):((tx a).toList==(tx b).toList)=decide (a=b):=by
  rw[ByteArray.toList_eq,ByteArray.toList_eq,xl,xl];by_cases h:a=b
  · subst h; simp
  · rw[decide_eq_false h]; exact beq_false_of_ne h
theorem zk(hu:P.underlying t=some .string):∀w,(do eqGuard .eql t x y (.string (tx a)) (.string (tx b)); binOp .eql t (.string (tx a)) (.string (tx b)):Sem Value).run P w=.ok (.bool (decide (a=b))) w:=fun w=>by
  rw[←jjf];simp[go_sem,hu,run_underlying hu]
theorem zui(hu:P.underlying t=some .string):∀w,(do eqGuard .neq t x y (.string (tx a)) (.string (tx b)); binOp .neq t (.string (tx a)) (.string (tx b)):Sem Value).run P w=.ok (.bool (!(decide (a=b)))) w:=fun w=>by
  rw[←jjf];simp[go_sem,hu,run_underlying hu]
end
end Go.Proofs.YtjhkejihhpnooaaGreatDoor.G
namespace Go.Proofs
open Go.Shelf
def Tryz.lays145_ren: Go.Shelf.Ren:=⟨fun | 145=>112 | 220=>137 | 219=>155 | 217=>133 | 225=>107 | 224=>106 | 267=>177 | 266=>152 | 314=>190 | n=>n,fun | 9=>9 | 4=>4 | 59=>135 | 3=>3 | 5=>5 | 46=>71 | 146=>187 | 51=>99 | n=>n,fun | 1=>2 | n=>n⟩
theorem Tryz.lays145: Go.Proofs.Lays.n145 Tryz.prog Tryz.lays145_ren:={
  mixed:=by kernel_rfl
  f145:=Tryz.func112.trans (congrArg some (by kernel_rfl))
  f217:=Tryz.func133.trans (congrArg some (by kernel_rfl))
  f219:=Tryz.func155.trans (congrArg some (by kernel_rfl))
  f220:=Tryz.func137.trans (congrArg some (by kernel_rfl))
  f224:=Tryz.func106.trans (congrArg some (by kernel_rfl))
  f225:=Tryz.func107.trans (congrArg some (by kernel_rfl))
  f266:=Tryz.func152.trans (congrArg some (by kernel_rfl))
  f267:=Tryz.func177.trans (congrArg some (by kernel_rfl))
  f314:=Tryz.func190.trans (congrArg some (by kernel_rfl))
  t3:=Tryz.underlying3
  a3:=Tryz.isAgg3
  z3:=Tryz.sizeOf3
  v3:=Tryz.zeroValue3
  t4:=Tryz.underlying4
  a4:=Tryz.isAgg4
  z4:=Tryz.sizeOf4
  v4:=Tryz.zeroValue4
  t5:=Tryz.underlying5
  a5:=Tryz.isAgg5
  z5:=Tryz.sizeOf5
  v5:=Tryz.zeroValue5
  t9:=Tryz.underlying9
  a9:=Tryz.isAgg9
  z9:=Tryz.sizeOf9
  v9:=Tryz.zeroValue9
  t46:=Tryz.underlying71
  a46:=Tryz.isAgg71
  z46:=Tryz.sizeOf71
  v46:=Tryz.zeroValue71
  t51:=Tryz.underlying99
  a51:=Tryz.isAgg99
  z51:=Tryz.sizeOf99
  v51:=Tryz.zeroValue99
  t59:=Tryz.underlying135
  a59:=Tryz.isAgg135
  z59:=Tryz.sizeOf135
  v59:=Tryz.zeroValue135
  t146:=Tryz.underlying187
  a146:=Tryz.isAgg187
  z146:=Tryz.sizeOf187
  v146:=Tryz.zeroValue187
  g1:=by kernel_rfl }
open Go.RowKit Go.Lib in
theorem Tryz.strings_Cut(s sep:ByteArray)(m:Int)(w:World)(hs:s.size<4294967281)(hm:w.cell? ⟨2,0,none⟩=some (.int .i64 m)):
    Calls Tryz.prog 112 #[.string s,.string sep] w fun e w'=>e=.returned (.tuple #[.string ⟨(Lib.cut s.data.toList sep.data.toList).1.toArray⟩,.string ⟨(Lib.cut s.data.toList sep.data.toList).2.1.toArray⟩,.bool (Lib.cut s.data.toList sep.data.toList).2.2])∧∃n,w'=w.drewN n:=Any.strings_Cut Tryz.lays145 s sep m w hs hm
def Tryz.lays99_ren: Go.Shelf.Ren:=⟨fun | 99=>52 | 206=>75 | n=>n,fun | 9=>9 | 4=>4 | 3=>3 | n=>n,fun | n=>n⟩
theorem Tryz.lays99: Go.Proofs.Lays.n99 Tryz.prog Tryz.lays99_ren:={
  mixed:=by kernel_rfl
  f99:=Tryz.func52.trans (congrArg some (by kernel_rfl))
  f206:=Tryz.func75.trans (congrArg some (by kernel_rfl))
  t3:=Tryz.underlying3
  a3:=Tryz.isAgg3
  z3:=Tryz.sizeOf3
  v3:=Tryz.zeroValue3
  t4:=Tryz.underlying4
  a4:=Tryz.isAgg4
  z4:=Tryz.sizeOf4
  v4:=Tryz.zeroValue4
  t9:=Tryz.underlying9
  a9:=Tryz.isAgg9
  z9:=Tryz.sizeOf9
  v9:=Tryz.zeroValue9 }
open Go.RowKit Go.Lib in
theorem Tryz.strings_HasPrefix(s p:ByteArray)(w:World):
    Calls Tryz.prog 52 #[.string s,.string p] w fun e w'=>e=.returned (.bool (Lib.hasPrefix s.data.toList p.data.toList))∧w'=w:=Any.strings_HasPrefix Tryz.lays99 s p w
def Tryz.lays152_ren: Go.Shelf.Ren:=⟨fun | 152=>71 | 137=>105 | 119=>67 | 224=>106 | 225=>107 | 217=>133 | 266=>152 | n=>n,fun | 9=>9 | 21=>21 | 3=>3 | 4=>4 | 5=>5 | 0=>0 | 46=>71 | n=>n,fun | n=>n⟩
theorem Tryz.lays152: Go.Proofs.Lays.n152 Tryz.prog Tryz.lays152_ren:={
  mixed:=by kernel_rfl
  f119:=Tryz.func67.trans (congrArg some (by kernel_rfl))
  f137:=Tryz.func105.trans (congrArg some (by kernel_rfl))
  f152:=Tryz.func71.trans (congrArg some (by kernel_rfl))
  f217:=Tryz.func133.trans (congrArg some (by kernel_rfl))
  f224:=Tryz.func106.trans (congrArg some (by kernel_rfl))
  f225:=Tryz.func107.trans (congrArg some (by kernel_rfl))
  f266:=Tryz.func152.trans (congrArg some (by kernel_rfl))
  t0:=Tryz.underlying0
  a0:=Tryz.isAgg0
  z0:=Tryz.sizeOf0
  v0:=Tryz.zeroValue0
  t3:=Tryz.underlying3
  a3:=Tryz.isAgg3
  z3:=Tryz.sizeOf3
  v3:=Tryz.zeroValue3
  t4:=Tryz.underlying4
  a4:=Tryz.isAgg4
  z4:=Tryz.sizeOf4
  v4:=Tryz.zeroValue4
  t5:=Tryz.underlying5
  a5:=Tryz.isAgg5
  z5:=Tryz.sizeOf5
  v5:=Tryz.zeroValue5
  t9:=Tryz.underlying9
  a9:=Tryz.isAgg9
  z9:=Tryz.sizeOf9
  v9:=Tryz.zeroValue9
  t21:=Tryz.underlying21
  a21:=Tryz.isAgg21
  z21:=Tryz.sizeOf21
  v21:=Tryz.zeroValue21
  t46:=Tryz.underlying71
  a46:=Tryz.isAgg71
  z46:=Tryz.sizeOf71
  v46:=Tryz.zeroValue71 }
open Go.RowKit Go.Lib in
theorem Tryz.strings_IndexRune_ascii(s:ByteArray)(r:Int)(w:World)(h0:0≤r)(h1:r<128):
    Calls Tryz.prog 71 #[.string s,.int .i32 r] w fun e w'=>e=.returned (.int .i64 (Lib.indexByte s.data.toList r.toNat.toUInt8))∧w'=w:=Any.strings_IndexRune_ascii Tryz.lays152 s r w h0 h1
def Tryz.lays197_ren: Go.Shelf.Ren:=⟨fun | 197=>29 | 260=>50 | n=>n,fun | 9=>9 | 21=>21 | 3=>3 | 4=>4 | 5=>5 | 105=>59 | 119=>67 | 0=>0 | 46=>71 | 139=>70 | 138=>69 | n=>n,fun | 3=>0 | 4=>1 | n=>n⟩
theorem Tryz.lays197: Go.Proofs.Lays.n197 Tryz.prog Tryz.lays197_ren:={
  mixed:=by kernel_rfl
  f197:=Tryz.func29.trans (congrArg some (by kernel_rfl))
  f260:=Tryz.func50.trans (congrArg some (by kernel_rfl))
  t0:=Tryz.underlying0
  a0:=Tryz.isAgg0
  z0:=Tryz.sizeOf0
  v0:=Tryz.zeroValue0
  t3:=Tryz.underlying3
  a3:=Tryz.isAgg3
  z3:=Tryz.sizeOf3
  v3:=Tryz.zeroValue3
  t4:=Tryz.underlying4
  a4:=Tryz.isAgg4
  z4:=Tryz.sizeOf4
  v4:=Tryz.zeroValue4
  t5:=Tryz.underlying5
  a5:=Tryz.isAgg5
  z5:=Tryz.sizeOf5
  v5:=Tryz.zeroValue5
  t9:=Tryz.underlying9
  a9:=Tryz.isAgg9
  z9:=Tryz.sizeOf9
  v9:=Tryz.zeroValue9
  t21:=Tryz.underlying21
  a21:=Tryz.isAgg21
  z21:=Tryz.sizeOf21
  v21:=Tryz.zeroValue21
  t46:=Tryz.underlying71
  a46:=Tryz.isAgg71
  z46:=Tryz.sizeOf71
  v46:=Tryz.zeroValue71
  t105:=Tryz.underlying59
  a105:=Tryz.isAgg59
  z105:=Tryz.sizeOf59
  v105:=Tryz.zeroValue59
  t119:=Tryz.underlying67
  a119:=Tryz.isAgg67
  z119:=Tryz.sizeOf67
  t138:=Tryz.underlying69
  a138:=Tryz.isAgg69
  z138:=Tryz.sizeOf69
  v138:=Tryz.zeroValue69
  t139:=Tryz.underlying70
  a139:=Tryz.isAgg70
  z139:=Tryz.sizeOf70
  v139:=Tryz.zeroValue70
  g3:=by kernel_rfl
  g4:=by kernel_rfl }
open Go.RowKit Go.Lib in
theorem Tryz.utf8_DecodeRuneInString(s:ByteArray)(w:World)(hT:Lib.Utf8Tabs 0 1 w):
    Calls Tryz.prog 29 #[.string s] w fun e w'=>e=.returned (.tuple #[.int .i32 (Lib.decodeGo s).1,.int .i64 (Lib.decodeGo s).2])∧Below w.heap.size w w':=Any.utf8_DecodeRuneInString Tryz.lays197 s w hT
end Go.Proofs
namespace Go.Proofs.YtjhkejihhpnooaaGreatDoor.G
open Go.RowKit
set_option maxRecDepth 100000
theorem RdA_is1_3: Is1 Tryz.prog 3:=⟨⟨_,Tryz.underlying3,rfl⟩,by kernel_rfl⟩
theorem RdA_is1_9: Is1 Tryz.prog 9:=⟨⟨_,Tryz.underlying9,rfl⟩,by kernel_rfl⟩
theorem RdA_fld_50_0: FieldAt Tryz.prog 50 0 0:=⟨_,_,Tryz.underlying50,rfl,rfl,by kernel_rfl⟩
theorem RdA_fld_50_1: FieldAt Tryz.prog 50 1 1:=⟨_,_,Tryz.underlying50,rfl,rfl,by kernel_rfl⟩
def flt: List PanicEntry:=[{ v:=.iface 47 (.agg #[]),recovered:=false }]
theorem zva{P:Program}{w:World}{l:List (Nat×Value)}{dst:Option Tmp}{ty t:TypeId}{pos:String}{after:Array Edge}{guard:Option (Nat×Bool)}{x:Operand}{v:Value}(ht:P.concrete t=true)(hx:ev l x=some v):Does P l ⟨dst,.makeInterface t x,ty,pos,after,guard⟩ w (.iface t v) w:=fun ρ h=>by
 simp[execOp,h x _ hx,run_makeInterface w t v ht]
theorem kj{w:World}:Calls Tryz.prog 23 #[bV true] w fun e w'=>e=.returned (.tuple #[])∧Below w.heap.size w w':=by
 have M:Mg w w ([]):=Mg.start w;refine qn (l:=[(0,bV true)]) Tryz.func23 rfl Tryz.ntmps23 rfl rfl ?_;intro Q hret hnorm hP a A;refine wsk fun K1 hK1=>wrl (sdm A λa A=>?_);refine sdo (v:=bV false) A (qr rfl zb) λa A=>?_;refine qa (hK1 _ _ (cf A ?_));refine wp_skip (hnorm _ _ (qac (v:=.tuple #[]) A rfl .nil rfl ?_));exact⟨rfl,M.bel⟩
theorem vh{w:World}:Calls Tryz.prog 23 #[bV false] w fun e w'=>e=.panicked flt∧Below w.heap.size w w':=by
 have M:Mg w w ([]):=Mg.start w;refine jr (l:=[(0,bV false)]) Tryz.func23 rfl Tryz.ntmps23 rfl rfl ?_;intro Q hret hnorm hP hX a A;refine wsk fun K1 hK1=>wrl (sdm A λa A=>?_);refine sdo (v:=bV true) A (qr rfl zb) λa A=>?_;refine qa (hK1 _ _ (ct A ?_));refine wrl (sdo (v:=.agg #[]) A (qt rfl (fun w=>by kernel_rfl)) λa A=>?_);refine sdo (v:=.iface 47 (.agg #[])) A (zva (by kernel_rfl) rfl) λa A=>?_;refine zqe (v:=.iface 47 (.agg #[])) A rfl (fun ρ h=>by simp only[execOp,h (.tmp 5) _ rfl]; rfl) ?_;exact hX _ _ _ _ _ A ⟨rfl,M.bel⟩
theorem xm{w0 w:World}{g p:Nat}{lg:Bool}{L:List UInt8}{T:List Ck}(hp:p≤L.length)(hM0:Mg w0 w (.obj g (rC L p lg)::T)):Calls Tryz.prog 21 #[pA g 0] w fun e w'=>e=.returned (.string (tx (L.drop p)))∧Mg w0 w' (.obj g (rC L p lg)::T):=by
 have M:Mg w0 w (.obj g (rC L p lg)::T):=hM0;refine qn (l:=[(0,pA g 0)]) Tryz.func21 rfl Tryz.ntmps21 rfl rfl ?_;intro Q hret hnorm hP a A;refine wsk fun K1 hK1=>wrl (sda A λa A=>?_);refine qa (hK1 _ _ (wsk fun K2 hK2=>jt (S:=fun w1=>Mg w0 w1 (.obj g (rC L p lg)::[])) (by kernel_rfl) ?_));replace M:=M.drew;refine amv A 0 rfl hP (M.sub (cC ns)) λa A=>?_;refine atk A 1 rfl hP (M.sub (cC ns)) (λ_ M=>ja rfl) λa A=>?_;refine atk (v:=pA g 0) A 2 rfl hP (M.sub (cC ns)) (λ_ M=>qb RdA_fld_50_0 rfl rfl) λa A=>?_;refine atk A 3 rfl hP (M.sub (cC ns)) (λ_ M=>qw M RdA_is1_9 rfl 0 rfl rfl) λa A=>?_;refine amv A 4 rfl hP (M.sub (cC ns)) λa A=>?_;refine atk A 5 rfl hP (M.sub (cC ns)) (λ_ M=>ja rfl) λa A=>?_;refine atk (v:=pA g 1) A 6 rfl hP (M.sub (cC ns)) (λ_ M=>qb RdA_fld_50_1 rfl rfl) λa A=>?_;refine atk A 7 rfl hP (M.sub (cC ns)) (λ_ M=>qw M RdA_is1_3 rfl 0 rfl rfl) λa A=>?_;refine atk (v:=.string ((tx (L.drop p)))) A 8 rfl hP (M.sub (cC ns)) (λ_ M=>vy (s:=L) (p:=p) Tryz.underlying9 rfl rfl rfl (by omega)) λa A=>?_;refine atk A 9 rfl hP (M.sub (cC ns)) (λ_ M=>ze rfl) λa A=>?_;refine zx (by kernel_rfl) ?_;refine hK2 _ _ (wr1 hret A ?_);exact⟨rfl,M⟩
theorem RdB_is1_3: Is1 Tryz.prog 3:=⟨⟨_,Tryz.underlying3,rfl⟩,by kernel_rfl⟩
theorem RdB_fld_50_1: FieldAt Tryz.prog 50 1 1:=⟨_,_,Tryz.underlying50,rfl,rfl,by kernel_rfl⟩
def dcX(l:List UInt8):Nat×Nat:=Lib.decodeGo (tx l)
theorem zga{l:List UInt8}(h:l≠[]):dcX l=Lib.decodeL l:=by
 unfold dcX Lib.decodeGo;rw[if_neg (by rw[xb]; exact fun k=>h (List.length_eq_zero_iff.1 k))];rfl
theorem vp{l:List UInt8}(h:l≠[]):1≤(dcX l).2∧(dcX l).2≤l.length:=by
 rw[zga h];exact kq l h
theorem zvb(l:List UInt8):(dcX l).2≤l.length:=by
 by_cases h:l=[]
 ·subst h; exact Nat.le_refl _
 ·exact(vp h).2
theorem qtc{w:World}{s t:List UInt8}{b:Bool}(h:Lib.hasPrefix s t=b):Calls Tryz.prog 52 #[.string (tx s),.string (tx t)] w fun e w'=>e=.returned (bV b)∧Below w.heap.size w w':=
 (Tryz.strings_HasPrefix (tx s) (tx t) w).mono fun e w' h1=>⟨by rw[h1.1,xl,xl,h],by rw[h1.2]; exact Below.refl _ _⟩
def Tb(w:World):Prop:=Lib.Utf8Tabs (Tryz.lays197_ren.g 3) (Tryz.lays197_ren.g 4) w
theorem Tb.below{w w':World}(h:Tb w)(hb:Below w.heap.size w w'):Tb w':=Utf8Tabs_below h hb
theorem qji{w:World}{l:List UInt8}(hT:Tb w):Calls Tryz.prog 29 #[.string (tx l)] w fun e w'=>e=.returned (.tuple #[.int .i32 (((dcX l).1:Nat):Int),iV (((dcX l).2:Nat):Int)])∧Below w.heap.size w w':=Tryz.utf8_DecodeRuneInString (tx l) w hT
theorem vq{w0 w:World}{g p:Nat}{lg:Bool}{L:List UInt8}{T:List Ck}{t:List UInt8}(hp:p≤L.length)(hl:L.length≤1000000000)(hh:Lib.hasPrefix (L.drop p) t=true)(hM0:Mg w0 w (.obj g (rC L p lg)::T)):Calls Tryz.prog 32 #[pA g 0,.string (tx t)] w fun e w'=>e=.returned (bV true)∧Mg w0 w' (.obj g (rC L (p+t.length) lg)::T):=by
 have htl:=(List.isPrefixOf_iff_prefix.1 hh).length_le;rw[List.length_drop]at htl;have M:Mg w0 w (.obj g (rC L p lg)::T):=hM0;refine qn (l:=[(0,pA g 0),(1,.string ((tx t)))]) Tryz.func32 rfl Tryz.ntmps32 rfl rfl ?_;intro Q hret hnorm hP a A;refine wsk fun K1 hK1=>wrl (sda A λa A=>?_);refine qa (hK1 _ _ (wsk fun K2 hK2=>wsk fun K3 hK3=>wrl (sdm A λa A=>?_)));refine sct A (ef rfl rfl) (xm (p:=p) (L:=L) (T:=(T)) (by omega) M) ?_;rintro _ w5 ⟨rfl,hM4⟩;replace M:Mg w0 w5 (.obj g (rC L p lg)::T):=hM4;refine⟨_,rfl,?_⟩;intro a A;refine sdm A λa A=>?_;refine gcl A M (ef rfl rfl) ((qtc hh)) fun w7 hb6 M a A=>?_;refine sdo (v:=bV false) A (qr rfl zb) λa A=>?_;refine qa (hK3 _ _ (cf A ?_));refine wp_skip (hK2 _ _ (wsk fun K8 hK8=>wrl (sdm A λa A=>?_)));refine sdo A (ja rfl) λa A=>?_;refine sdo (v:=pA g 1) A (qb RdB_fld_50_1 rfl rfl) λa A=>?_;refine sdo A (qw M RdB_is1_3 rfl 0 rfl rfl) λa A=>?_;refine sdm A λa A=>?_;refine sdo (v:=iV (((t.length:Nat):Int))) A (xx (s:=t) Tryz.underlying9 rfl) λa A=>?_;refine sdo (v:=iV (((p+t.length:Nat):Int))) A (qe rfl rfl (ar_add ((in_i64 (by omega) (by omega)).trans (by omega)))) λa A=>?_;refine sdo A (ja rfl) λa A=>?_;refine sdo (v:=pA g 1) A (qb RdB_fld_50_1 rfl rfl) λa A=>?_;refine za (L':=(.obj g (rC L (p+t.length) lg)::T)) A M rfl rfl (qp rfl rfl rfl (by kernel_rfl) M 0 rfl rfl rfl) 0 rfl rfl rfl ?_;intro w9 M;refine qa (hK8 _ _ (wsk fun K10 hK10=>wrl (sda A λa A=>?_)));refine qa (hK10 _ _ (wr1 hret A ?_));exact⟨rfl,M⟩
theorem kb{w0 w:World}{g p:Nat}{lg:Bool}{L:List UInt8}{T:List Ck}{t:List UInt8}(hp:p≤L.length)(hl:L.length≤1000000000)(hh:Lib.hasPrefix (L.drop p) t=false)(hM0:Mg w0 w (.obj g (rC L p lg)::T)):Calls Tryz.prog 32 #[pA g 0,.string (tx t)] w fun e w'=>e=.returned (bV false)∧Mg w0 w' (.obj g (rC L p lg)::T):=by
 have M:Mg w0 w (.obj g (rC L p lg)::T):=hM0;refine qn (l:=[(0,pA g 0),(1,.string ((tx t)))]) Tryz.func32 rfl Tryz.ntmps32 rfl rfl ?_;intro Q hret hnorm hP a A;refine wsk fun K1 hK1=>wrl (sda A λa A=>?_);refine qa (hK1 _ _ (wsk fun K2 hK2=>wsk fun K3 hK3=>wrl (sdm A λa A=>?_)));refine sct A (ef rfl rfl) (xm (p:=p) (L:=L) (T:=(T)) (by omega) M) ?_;rintro _ w5 ⟨rfl,hM4⟩;replace M:Mg w0 w5 (.obj g (rC L p lg)::T):=hM4;refine⟨_,rfl,?_⟩;intro a A;refine sdm A λa A=>?_;refine gcl A M (ef rfl rfl) ((qtc hh)) fun w7 hb6 M a A=>?_;refine sdo (v:=bV true) A (qr rfl zb) λa A=>?_;refine qa (hK3 _ _ (ct A ?_));refine wsk fun K8 hK8=>wrl (sda A λa A=>?_);refine qa (hK8 _ _ (wr1 hret A ?_));exact⟨rfl,M⟩
theorem qnb{w0 w:World}{g p:Nat}{lg:Bool}{L:List UInt8}{T:List Ck}(hT:Tb w0)(hp:p≤L.length)(hl:L.length≤1000000000)(hne:L.drop p≠[])(hM0:Mg w0 w (.obj g (rC L p lg)::T)):Calls Tryz.prog 53 #[pA g 0] w fun e w'=>e=.returned (.int .i32 (((dcX (L.drop p)).1:Nat):Int))∧Mg w0 w' (.obj g (rC L (p+(dcX (L.drop p)).2) lg)::T):=by
 obtain⟨hw1,hw2⟩:=vp hne;rw[List.length_drop]at hw2;have M:Mg w0 w (.obj g (rC L p lg)::T):=hM0;refine qn (l:=[(0,pA g 0)]) Tryz.func53 rfl Tryz.ntmps53 rfl rfl ?_;intro Q hret hnorm hP a A;refine wsk fun K1 hK1=>wrl (sda A λa A=>?_);refine qa (hK1 _ _ (wsk fun K2 hK2=>wrl (sdm A λa A=>?_)));refine sct A (ef rfl rfl) (xm (p:=p) (L:=L) (T:=(T)) (by omega) M) ?_;rintro _ w4 ⟨rfl,hM3⟩;replace M:Mg w0 w4 (.obj g (rC L p lg)::T):=hM3;refine⟨_,rfl,?_⟩;intro a A;refine gcl A M (ef rfl rfl) (qji (l:=L.drop p) (hT.below M.bel)) fun w6 hb5 M a A=>?_;refine sdm A λa A=>?_;iterate 2 refine sdo A (qi (vs:=[.int .i32 ((((dcX (L.drop p)).1:Nat):Int)),iV ((((dcX (L.drop p)).2:Nat):Int))]) rfl rfl) λa A=>?_
 iterate 2 refine sda A λa A=>?_
 refine qa (hK2 _ _ (wsk fun K7 hK7=>wrl (sdm A λa A=>?_)));refine sdo (v:=bV true) A (qe rfl rfl (fun w=>(zp w).trans (by rw[show(decide (0<(((dcX (L.drop p)).2:Nat):Int)))=true from(decide_eq_true (by omega))]))) λa A=>?_;refine gcl A M (ef rfl rfl) (kj) fun w9 hb8 M a A=>?_;refine qa (hK7 _ _ (wsk fun K10 hK10=>wrl (sdm A λa A=>?_)));refine sdo A (ja rfl) λa A=>?_;refine sdo (v:=pA g 1) A (qb RdB_fld_50_1 rfl rfl) λa A=>?_;refine sdo A (qw M RdB_is1_3 rfl 0 rfl rfl) λa A=>?_;refine sdm A λa A=>?_;refine sdo (v:=iV (((p+(dcX (L.drop p)).2:Nat):Int))) A (qe rfl rfl (ar_add ((in_i64 (by omega) (by omega)).trans (by omega)))) λa A=>?_;refine sdo A (ja rfl) λa A=>?_;refine sdo (v:=pA g 1) A (qb RdB_fld_50_1 rfl rfl) λa A=>?_;refine za (L':=(.obj g (rC L (p+(dcX (L.drop p)).2) lg)::T)) A M rfl rfl (qp rfl rfl rfl (by kernel_rfl) M 0 rfl rfl rfl) 0 rfl rfl rfl ?_;intro w11 M;refine qa (hK10 _ _ (wsk fun K12 hK12=>wrl (sdm A λa A=>?_)));refine sda A λa A=>?_;refine qa (hK12 _ _ (wr1 hret A ?_));exact⟨rfl,M⟩
theorem qog{w0 w:World}{g p:Nat}{lg:Bool}{L:List UInt8}{T:List Ck}(hT:Tb w0)(hp:p≤L.length)(hl:L.length≤1000000000)(hne:L.drop p=[])(hM0:Mg w0 w (.obj g (rC L p lg)::T)):Calls Tryz.prog 53 #[pA g 0] w fun e w'=>e=.panicked flt∧Mg w0 w' (.obj g (rC L p lg)::T):=by
 have hw1:(dcX (L.drop p)).2=0:=by rw[hne]; rfl
 have M:Mg w0 w (.obj g (rC L p lg)::T):=hM0;refine jr (l:=[(0,pA g 0)]) Tryz.func53 rfl Tryz.ntmps53 rfl rfl ?_;intro Q hret hnorm hP hX a A;refine wsk fun K1 hK1=>wrl (sda A λa A=>?_);refine qa (hK1 _ _ (wsk fun K2 hK2=>wrl (sdm A λa A=>?_)));refine sct A (ef rfl rfl) (xm (p:=p) (L:=L) (T:=(T)) (by omega) M) ?_;rintro _ w4 ⟨rfl,hM3⟩;replace M:Mg w0 w4 (.obj g (rC L p lg)::T):=hM3;refine⟨_,rfl,?_⟩;intro a A;refine gcl A M (ef rfl rfl) (qji (l:=L.drop p) (hT.below M.bel)) fun w6 hb5 M a A=>?_;refine sdm A λa A=>?_;iterate 2 refine sdo A (qi (vs:=[.int .i32 ((((dcX (L.drop p)).1:Nat):Int)),iV ((((dcX (L.drop p)).2:Nat):Int))]) rfl rfl) λa A=>?_
 iterate 2 refine sda A λa A=>?_
 refine qa (hK2 _ _ (wsk fun K7 hK7=>wrl (sdm A λa A=>?_)));refine sdo (v:=bV false) A (qe rfl rfl (fun w=>(zp w).trans (by rw[show(decide (0<(((dcX (L.drop p)).2:Nat):Int)))=false from(decide_eq_false (by omega))]))) λa A=>?_;refine qy A rfl rfl rfl (ef rfl rfl) (vh) ?_;rintro _ w9 ⟨rfl,hp10⟩;exact .inl ⟨_,rfl,hX _ _ _ _ _ A (⟨rfl,M.call hp10⟩)⟩
def ux(b:UInt8):Bool:=(decide (48≤((b.toNat:Nat):Int))&&decide (((b.toNat:Nat):Int)≤57))||((decide (97≤((b.toNat:Nat):Int))&&decide (((b.toNat:Nat):Int)≤102))||(decide (65≤((b.toNat:Nat):Int))&&decide (((b.toNat:Nat):Int)≤70)))
def hxN: List UInt8→Nat
 | [] => 0
 | b :: t => if ux b = true then hxN t + 1 else 0
theorem jec{l:List UInt8}{i:Nat}{b:UInt8}(h:l[i]?=some b)(hb:ux b=true):hxN (l.drop i)=hxN (l.drop (i+1))+1:=by
 obtain⟨hl,e⟩:=List.getElem?_eq_some_iff.1 h;rw[List.drop_eq_getElem_cons hl,e,hxN,if_pos hb]
theorem qdj{l:List UInt8}{i:Nat}{b:UInt8}(h:l[i]?=some b)(hb:ux b=false):hxN (l.drop i)=0:=by
 obtain⟨hl,e⟩:=List.getElem?_eq_some_iff.1 h;rw[List.drop_eq_getElem_cons hl,e,hxN,if_neg (by rw[hb]; decide)]
theorem qea{l:List UInt8}{i:Nat}(h:¬i<l.length):hxN (l.drop i)=0:=by
 rw[List.drop_eq_nil_of_le (by omega),hxN]
theorem zvc: ∀l:List UInt8,hxN l≤l.length
 | [] => Nat.le_refl _
 | b :: t => by
  have:=zvc t;unfold hxN
  split<;>simp<;>omega
def un(l:List UInt8):Nat:=(dcX l).2+hxN (l.drop (dcX l).2)+(if(decide (0<hxN (l.drop (dcX l).2))&&Lib.hasPrefix (l.drop ((dcX l).2+hxN (l.drop (dcX l).2))) [59])=true then 1 else 0)
theorem zvd(l:List UInt8):un l≤l.length:=by
 have h1:=zvb l;have h2:=zvc (l.drop (dcX l).2);rw[List.length_drop]at h2;unfold un
 split
 ·rename_i h;rw[Bool.and_eq_true]at h;have h3:1≤(l.drop ((dcX l).2+hxN (l.drop (dcX l).2))).length:=(List.isPrefixOf_iff_prefix.1 h.2).length_le;rw[List.length_drop]at h3;omega
 ·omega
theorem jed{w:World}{b:UInt8}:Calls Tryz.prog 116 #[.int .u8 ((b.toNat:Nat):Int)] w fun e w'=>e=.returned (bV (ux b))∧Below w.heap.size w w':=by
 have M:Mg w w ([]):=Mg.start w;refine qn (l:=[(0,.int .u8 (((b.toNat:Nat):Int)))]) Tryz.func116 rfl Tryz.ntmps116 rfl rfl ?_;intro Q hret hnorm hP a A;refine wsk fun K1 hK1=>wrl (sda A λa A=>?_);refine qa (hK1 _ _ (wsk fun K2 hK2=>wrl (sdm A λa A=>?_)));rcases tf (decide (48≤((b.toNat:Nat):Int)))with hb3 | hb3
 ·have hb3':=of_decide_eq_true hb3;refine sdc A jb hb3 λa A=>?_;iterate 2 refine sdm A λa A=>?_
  rcases tf (decide (((b.toNat:Nat):Int)≤57))with hb4 | hb4
  ·have hb4':=of_decide_eq_true hb4;refine sdc A jc hb4 λa A=>?_;refine sdk (v:=bV true) A λa A=>?_;refine sdm A λa A=>?_;iterate 3 refine qg A rfl rfl rfl λa A=>?_
   iterate 2 refine xw A rfl rfl rfl λa A=>?_
   refine qg A rfl rfl rfl λa A=>?_;refine sdk (v:=bV true) A λa A=>?_;refine sdm A λa A=>?_;iterate 3 refine qg A rfl rfl rfl λa A=>?_
   iterate 2 refine xw A rfl rfl rfl λa A=>?_
   refine qg A rfl rfl rfl λa A=>?_;refine sdk (v:=bV true) A λa A=>?_;refine sda A λa A=>?_;refine qa (hK2 _ _ (wr1 hret A ?_));exact⟨by unfold ux; rw[hb3,hb4]; rfl,M.bel⟩
  ·have hb4':=of_decide_eq_false hb4;refine sdc A jc hb4 λa A=>?_;refine sdk (v:=bV false) A λa A=>?_;iterate 2 refine sdm A λa A=>?_
   rcases tf (decide (97≤((b.toNat:Nat):Int)))with hb5 | hb5
   ·have hb5':=of_decide_eq_true hb5;refine sdc A jb hb5 λa A=>?_;iterate 2 refine sdm A λa A=>?_
    rcases tf (decide (((b.toNat:Nat):Int)≤102))with hb6 | hb6
    ·have hb6':=of_decide_eq_true hb6;refine sdc A jc hb6 λa A=>?_;iterate 2 refine sdk (v:=bV true) A λa A=>?_
     refine sdm A λa A=>?_;iterate 3 refine qg A rfl rfl rfl λa A=>?_
     iterate 2 refine xw A rfl rfl rfl λa A=>?_
     refine qg A rfl rfl rfl λa A=>?_;refine sdk (v:=bV true) A λa A=>?_;refine sda A λa A=>?_;refine qa (hK2 _ _ (wr1 hret A ?_));exact⟨by unfold ux; rw[hb3,hb4,hb5,hb6]; rfl,M.bel⟩
    ·have hb6':=of_decide_eq_false hb6;refine sdc A jc hb6 λa A=>?_;iterate 2 refine sdk (v:=bV false) A λa A=>?_
     iterate 2 refine sdm A λa A=>?_
     rcases tf (decide (65≤((b.toNat:Nat):Int)))with hb7 | hb7
     ·have hb7':=of_decide_eq_true hb7;refine sdc A jb hb7 λa A=>?_;iterate 2 refine sdm A λa A=>?_
      rcases tf (decide (((b.toNat:Nat):Int)≤70))with hb8 | hb8
      ·have hb8':=of_decide_eq_true hb8;refine sdc A jc hb8 λa A=>?_;iterate 2 refine sdk (v:=bV true) A λa A=>?_
       refine sda A λa A=>?_;refine qa (hK2 _ _ (wr1 hret A ?_));exact⟨by unfold ux; rw[hb3,hb4,hb5,hb6,hb7,hb8]; rfl,M.bel⟩
      ·have hb8':=of_decide_eq_false hb8;refine sdc A jc hb8 λa A=>?_;iterate 2 refine sdk (v:=bV false) A λa A=>?_
       refine sda A λa A=>?_;refine qa (hK2 _ _ (wr1 hret A ?_));exact⟨by unfold ux; rw[hb3,hb4,hb5,hb6,hb7,hb8]; rfl,M.bel⟩
     ·have hb7':=of_decide_eq_false hb7;refine sdc A jb hb7 λa A=>?_;refine sdm A λa A=>?_;iterate 2 refine qg A rfl rfl rfl λa A=>?_
      iterate 2 refine sdk (v:=bV false) A λa A=>?_
      refine sda A λa A=>?_;refine qa (hK2 _ _ (wr1 hret A ?_));exact⟨by unfold ux; rw[hb3,hb4,hb5,hb6,hb7]; rfl,M.bel⟩
   ·have hb5':=of_decide_eq_false hb5;refine sdc A jb hb5 λa A=>?_;refine sdm A λa A=>?_;iterate 2 refine qg A rfl rfl rfl λa A=>?_
    iterate 2 refine sdk (v:=bV false) A λa A=>?_
    iterate 2 refine sdm A λa A=>?_
    rcases tf (decide (65≤((b.toNat:Nat):Int)))with hb9 | hb9
    ·have hb9':=of_decide_eq_true hb9;refine sdc A jb hb9 λa A=>?_;iterate 2 refine sdm A λa A=>?_
     rcases tf (decide (((b.toNat:Nat):Int)≤70))with hb10 | hb10
     ·have hb10':=of_decide_eq_true hb10;refine sdc A jc hb10 λa A=>?_;iterate 2 refine sdk (v:=bV true) A λa A=>?_
      refine sda A λa A=>?_;refine qa (hK2 _ _ (wr1 hret A ?_));exact⟨by unfold ux; rw[hb3,hb4,hb5,hb9,hb10]; rfl,M.bel⟩
     ·have hb10':=of_decide_eq_false hb10;refine sdc A jc hb10 λa A=>?_;iterate 2 refine sdk (v:=bV false) A λa A=>?_
      refine sda A λa A=>?_;refine qa (hK2 _ _ (wr1 hret A ?_));exact⟨by unfold ux; rw[hb3,hb4,hb5,hb9,hb10]; rfl,M.bel⟩
    ·have hb9':=of_decide_eq_false hb9;refine sdc A jb hb9 λa A=>?_;refine sdm A λa A=>?_;iterate 2 refine qg A rfl rfl rfl λa A=>?_
     iterate 2 refine sdk (v:=bV false) A λa A=>?_
     refine sda A λa A=>?_;refine qa (hK2 _ _ (wr1 hret A ?_));exact⟨by unfold ux; rw[hb3,hb4,hb5,hb9]; rfl,M.bel⟩
 ·have hb3':=of_decide_eq_false hb3;refine sdc A jb hb3 λa A=>?_;refine sdm A λa A=>?_;iterate 2 refine qg A rfl rfl rfl λa A=>?_
  refine sdk (v:=bV false) A λa A=>?_;iterate 2 refine sdm A λa A=>?_
  rcases tf (decide (97≤((b.toNat:Nat):Int)))with hb11 | hb11
  ·have hb11':=of_decide_eq_true hb11;refine sdc A jb hb11 λa A=>?_;iterate 2 refine sdm A λa A=>?_
   rcases tf (decide (((b.toNat:Nat):Int)≤102))with hb12 | hb12
   ·have hb12':=of_decide_eq_true hb12;refine sdc A jc hb12 λa A=>?_;iterate 2 refine sdk (v:=bV true) A λa A=>?_
    refine sdm A λa A=>?_;iterate 3 refine qg A rfl rfl rfl λa A=>?_
    iterate 2 refine xw A rfl rfl rfl λa A=>?_
    refine qg A rfl rfl rfl λa A=>?_;refine sdk (v:=bV true) A λa A=>?_;refine sda A λa A=>?_;refine qa (hK2 _ _ (wr1 hret A ?_));exact⟨by unfold ux; rw[hb3,hb11,hb12]; rfl,M.bel⟩
   ·have hb12':=of_decide_eq_false hb12;refine sdc A jc hb12 λa A=>?_;iterate 2 refine sdk (v:=bV false) A λa A=>?_
    iterate 2 refine sdm A λa A=>?_
    rcases tf (decide (65≤((b.toNat:Nat):Int)))with hb13 | hb13
    ·have hb13':=of_decide_eq_true hb13;refine sdc A jb hb13 λa A=>?_;iterate 2 refine sdm A λa A=>?_
     rcases tf (decide (((b.toNat:Nat):Int)≤70))with hb14 | hb14
     ·have hb14':=of_decide_eq_true hb14;refine sdc A jc hb14 λa A=>?_;iterate 2 refine sdk (v:=bV true) A λa A=>?_
      refine sda A λa A=>?_;refine qa (hK2 _ _ (wr1 hret A ?_));exact⟨by unfold ux; rw[hb3,hb11,hb12,hb13,hb14]; rfl,M.bel⟩
     ·have hb14':=of_decide_eq_false hb14;refine sdc A jc hb14 λa A=>?_;iterate 2 refine sdk (v:=bV false) A λa A=>?_
      refine sda A λa A=>?_;refine qa (hK2 _ _ (wr1 hret A ?_));exact⟨by unfold ux; rw[hb3,hb11,hb12,hb13,hb14]; rfl,M.bel⟩
    ·have hb13':=of_decide_eq_false hb13;refine sdc A jb hb13 λa A=>?_;refine sdm A λa A=>?_;iterate 2 refine qg A rfl rfl rfl λa A=>?_
     iterate 2 refine sdk (v:=bV false) A λa A=>?_
     refine sda A λa A=>?_;refine qa (hK2 _ _ (wr1 hret A ?_));exact⟨by unfold ux; rw[hb3,hb11,hb12,hb13]; rfl,M.bel⟩
  ·have hb11':=of_decide_eq_false hb11;refine sdc A jb hb11 λa A=>?_;refine sdm A λa A=>?_;iterate 2 refine qg A rfl rfl rfl λa A=>?_
   iterate 2 refine sdk (v:=bV false) A λa A=>?_
   iterate 2 refine sdm A λa A=>?_
   rcases tf (decide (65≤((b.toNat:Nat):Int)))with hb15 | hb15
   ·have hb15':=of_decide_eq_true hb15;refine sdc A jb hb15 λa A=>?_;iterate 2 refine sdm A λa A=>?_
    rcases tf (decide (((b.toNat:Nat):Int)≤70))with hb16 | hb16
    ·have hb16':=of_decide_eq_true hb16;refine sdc A jc hb16 λa A=>?_;iterate 2 refine sdk (v:=bV true) A λa A=>?_
     refine sda A λa A=>?_;refine qa (hK2 _ _ (wr1 hret A ?_));exact⟨by unfold ux; rw[hb3,hb11,hb15,hb16]; rfl,M.bel⟩
    ·have hb16':=of_decide_eq_false hb16;refine sdc A jc hb16 λa A=>?_;iterate 2 refine sdk (v:=bV false) A λa A=>?_
     refine sda A λa A=>?_;refine qa (hK2 _ _ (wr1 hret A ?_));exact⟨by unfold ux; rw[hb3,hb11,hb15,hb16]; rfl,M.bel⟩
   ·have hb15':=of_decide_eq_false hb15;refine sdc A jb hb15 λa A=>?_;refine sdm A λa A=>?_;iterate 2 refine qg A rfl rfl rfl λa A=>?_
    iterate 2 refine sdk (v:=bV false) A λa A=>?_
    refine sda A λa A=>?_;refine qa (hK2 _ _ (wr1 hret A ?_));exact⟨by unfold ux; rw[hb3,hb11,hb15]; rfl,M.bel⟩
theorem zve{w:World}{b:UInt8}{c:Bool}(h:ux b=c):Calls Tryz.prog 116 #[.int .u8 ((b.toNat:Nat):Int)] w fun e w'=>e=.returned (bV c)∧Below w.heap.size w w':=h▸jed
theorem zvf{w:World}{l:List UInt8}(hT:Tb w)(hl:l.length≤1000000000):Calls Tryz.prog 86 #[.string (tx l)] w fun e w'=>e=.returned (iV ((un l:Nat):Int))∧Below w.heap.size w w':=by
 have M:Mg w w ([]):=Mg.start w;refine qn (l:=[(0,.string ((tx l)))]) Tryz.func86 rfl Tryz.ntmps86 rfl rfl ?_;intro Q hret hnorm hP a A;refine wsk fun K1 hK1=>wrl (sda A λa A=>?_);refine qa (hK1 _ _ (wsk fun K2 hK2=>wrl (sdm A λa A=>?_)));refine sct A (ef rfl rfl) (qji (l:=l) (hT.below M.bel)) ?_;rintro _ w4 ⟨rfl,hb3⟩;obtain⟨q,hq⟩:∃q,(dcX l).2=q:=⟨_,rfl⟩;have hql:=zvb l;rw[hq]at hql ⊢;replace M:=M.call hb3;refine⟨_,rfl,?_⟩;intro a A;refine sdm A λa A=>?_;iterate 2 refine sdo A (qi (vs:=[.int .i32 ((((dcX l).1:Nat):Int)),iV (((q:Nat):Int))]) rfl rfl) λa A=>?_
 iterate 2 refine sda A λa A=>?_
 refine qa (hK2 _ _ (wsk fun K5 hK5=>wrl (sda A λa A=>?_)));refine qa (hK5 _ _ (wsk fun K6 hK6=>wp_block (jd (fun m_ a w1=>∃(j:Nat),m_=1+(l.length-(q+j))∧(q+j≤l.length∧hxN (l.drop q)=j+hxN (l.drop (q+j)))∧Sl a 41 [(0,.string ((tx l))),(2,iV 0),(3,.int .i32 ((((dcX l).1:Nat):Int))),(4,iV (((q:Nat):Int))),(5,iV (((j:Nat):Int))),(6,.tuple #[.int .i32 ((((dcX l).1:Nat):Int)),iV (((q:Nat):Int))]),(7,.string ((tx l))),(8,.tuple #[.int .i32 ((((dcX l).1:Nat):Int)),iV (((q:Nat):Int))]),(9,.int .i32 ((((dcX l).1:Nat):Int))),(10,iV (((q:Nat):Int)))]∧Mg w w1 ([])) _ ⟨0,rfl,⟨by omega,by rw[Nat.zero_add,Nat.add_zero]⟩,A.keep _ (by repeat' constructor),M⟩ ?_)));clear M A;rintro m_ a w7 ⟨j,rfl,hinv9,A,M⟩ K8 hK8;obtain⟨hj0,hj⟩:=hinv9;refine wsk fun K10 hK10=>wsk fun K11 hK11=>wrl ?_;iterate 2 refine sdm A λa A=>?_
 refine sdo (v:=iV (((q+j:Nat):Int))) A (qe rfl rfl (ar_add ((in_i64 (by omega) (by omega)).trans (by omega)))) λa A=>?_;refine sdm A λa A=>?_;refine sdo (v:=iV (((l.length:Nat):Int))) A (xx (s:=l) Tryz.underlying9 rfl) λa A=>?_;rcases tf (decide (((q+j:Nat):Int)<((l.length:Nat):Int)))with hb12 | hb12
 ·have hb12':=of_decide_eq_true hb12;refine sdc A zr hb12 λa A=>?_;iterate 4 refine sdm A λa A=>?_
  refine sdo (v:=iV (((q+j:Nat):Int))) A (qe rfl rfl (ar_add ((in_i64 (by omega) (by omega)).trans (by omega)))) λa A=>?_;obtain⟨b13,hb14⟩:∃b,l[q+j]?=some b:=⟨_,List.getElem?_eq_getElem (show q+j<l.length by omega)⟩;refine sdo (v:=.int .u8 (((b13.toNat:Nat):Int))) A (qad (s:=l) (i:=q+j) Tryz.underlying9 rfl rfl rfl hb14) λa A=>?_;rcases tf (ux b13)with hb15 | hb15
  ·refine gcl A M (ef rfl rfl) ((zve hb15)) fun w17 hb16 M a A=>?_;refine sdk (v:=bV true) A λa A=>?_;refine qa (hK11 _ _ (ct A ?_));refine wp_skip (hK10 _ _ (wp_block (wrl (sdm A λa A=>?_))));refine sdo (v:=iV (((j+1:Nat):Int))) A (qe rfl rfl (ar_add ((in_i64 (by omega) (by omega)).trans (by omega)))) λa A=>?_;refine sda A λa A=>?_;refine qa ?_;refine hK8 _ _ _ (by omega) ⟨j+1,rfl,⟨by omega,by rw[hj,jec hb14 hb15,Nat.add_assoc]; omega⟩,A.keep _ (by repeat' constructor),M⟩
  ·refine gcl A M (ef rfl rfl) ((zve hb15)) fun w19 hb18 M a A=>?_;refine sdk (v:=bV false) A λa A=>?_;refine qa (hK11 _ _ (cf A ?_));refine wp_exit (hK6 _ _ (wsk fun K20 hK20=>wrl ?_));iterate 2 refine sdm A λa A=>?_
   refine sdo (v:=iV (((q+j:Nat):Int))) A (qe rfl rfl (ar_add ((in_i64 (by omega) (by omega)).trans (by omega)))) λa A=>?_;refine sda A λa A=>?_;refine qa (hK20 _ _ (wsk fun K21 hK21=>wsk fun K22 hK22=>wrl (sdm A λa A=>?_)));rcases tf (decide (0<((j:Nat):Int)))with hb23 | hb23
   ·have hb23':=of_decide_eq_true hb23;refine sdc A zp hb23 λa A=>?_;iterate 3 refine sdm A λa A=>?_
    refine sdo (v:=.string ((tx (l.drop (q+j))))) A (vy (s:=l) (p:=q+j) Tryz.underlying9 rfl rfl rfl (by omega)) λa A=>?_;rcases tf (Lib.hasPrefix (l.drop (q+j)) [59])with hb24 | hb24
    ·refine gcl A M (ef rfl rfl) ((qtc hb24)) fun w26 hb25 M a A=>?_;refine sdk (v:=bV true) A λa A=>?_;refine qa (hK22 _ _ (ct A ?_));refine wrl (sdm A λa A=>?_);refine sdo (v:=iV (((q+j+1:Nat):Int))) A (qe rfl rfl (ar_add ((in_i64 (by omega) (by omega)).trans (by omega)))) λa A=>?_;refine sda A λa A=>?_;refine qa (hK21 _ _ (wsk fun K27 hK27=>wrl (sdm A λa A=>?_)));refine sda A λa A=>?_;refine qa (hK27 _ _ (wr1 hret A ?_));have hz:hxN (l.drop (q+j))=0:=by first | exact qdj (by assumption) (by assumption) | exact qea (by omega)
     have hjj:hxN (l.drop q)=j:=(by omega);exact⟨by unfold un; rw[hq,hjj,hb24,if_pos (by rw[decide_eq_true (by omega)]; rfl)],M.bel⟩
    ·refine gcl A M (ef rfl rfl) ((qtc hb24)) fun w29 hb28 M a A=>?_;refine sdk (v:=bV false) A λa A=>?_;refine qa (hK22 _ _ (cf A ?_));refine wp_skip (hK21 _ _ (wsk fun K30 hK30=>wrl (sdm A λa A=>?_)));refine sda A λa A=>?_;refine qa (hK30 _ _ (wr1 hret A ?_));have hz:hxN (l.drop (q+j))=0:=by first | exact qdj (by assumption) (by assumption) | exact qea (by omega)
     have hjj:hxN (l.drop q)=j:=(by omega);exact⟨by unfold un; rw[hq,hjj,hb24,if_neg (by rw[Bool.and_false]; decide)]; rfl,M.bel⟩
   ·have hb23':=of_decide_eq_false hb23;refine sdc A zp hb23 λa A=>?_;refine sdm A λa A=>?_;iterate 4 refine qg A rfl rfl rfl λa A=>?_
    refine sdk (v:=bV false) A λa A=>?_;refine qa (hK22 _ _ (cf A ?_));refine wp_skip (hK21 _ _ (wsk fun K31 hK31=>wrl (sdm A λa A=>?_)));refine sda A λa A=>?_;refine qa (hK31 _ _ (wr1 hret A ?_));have hz:hxN (l.drop (q+j))=0:=by first | exact qdj (by assumption) (by assumption) | exact qea (by omega)
    have hjj:hxN (l.drop q)=j:=(by omega);exact⟨by unfold un; rw[hq,hjj,if_neg (by rw[decide_eq_false (by omega),Bool.false_and]; decide)]; rfl,M.bel⟩
 ·have hb12':=of_decide_eq_false hb12;refine sdc A zr hb12 λa A=>?_;refine sdm A λa A=>?_;iterate 6 refine qg A rfl rfl rfl λa A=>?_
  refine sdk (v:=bV false) A λa A=>?_;refine qa (hK11 _ _ (cf A ?_));refine wp_exit (hK6 _ _ (wsk fun K32 hK32=>wrl ?_));iterate 2 refine sdm A λa A=>?_
  refine sdo (v:=iV (((q+j:Nat):Int))) A (qe rfl rfl (ar_add ((in_i64 (by omega) (by omega)).trans (by omega)))) λa A=>?_;refine sda A λa A=>?_;refine qa (hK32 _ _ (wsk fun K33 hK33=>wsk fun K34 hK34=>wrl (sdm A λa A=>?_)));rcases tf (decide (0<((j:Nat):Int)))with hb35 | hb35
  ·have hb35':=of_decide_eq_true hb35;refine sdc A zp hb35 λa A=>?_;iterate 3 refine sdm A λa A=>?_
   refine sdo (v:=.string ((tx (l.drop (q+j))))) A (vy (s:=l) (p:=q+j) Tryz.underlying9 rfl rfl rfl (by omega)) λa A=>?_;rcases tf (Lib.hasPrefix (l.drop (q+j)) [59])with hb36 | hb36
   ·refine gcl A M (ef rfl rfl) ((qtc hb36)) fun w38 hb37 M a A=>?_;refine sdk (v:=bV true) A λa A=>?_;refine qa (hK34 _ _ (ct A ?_));refine wrl (sdm A λa A=>?_);refine sdo (v:=iV (((q+j+1:Nat):Int))) A (qe rfl rfl (ar_add ((in_i64 (by omega) (by omega)).trans (by omega)))) λa A=>?_;refine sda A λa A=>?_;refine qa (hK33 _ _ (wsk fun K39 hK39=>wrl (sdm A λa A=>?_)));refine sda A λa A=>?_;refine qa (hK39 _ _ (wr1 hret A ?_));have hz:hxN (l.drop (q+j))=0:=by first | exact qdj (by assumption) (by assumption) | exact qea (by omega)
    have hjj:hxN (l.drop q)=j:=(by omega);exact⟨by unfold un; rw[hq,hjj,hb36,if_pos (by rw[decide_eq_true (by omega)]; rfl)],M.bel⟩
   ·refine gcl A M (ef rfl rfl) ((qtc hb36)) fun w41 hb40 M a A=>?_;refine sdk (v:=bV false) A λa A=>?_;refine qa (hK34 _ _ (cf A ?_));refine wp_skip (hK33 _ _ (wsk fun K42 hK42=>wrl (sdm A λa A=>?_)));refine sda A λa A=>?_;refine qa (hK42 _ _ (wr1 hret A ?_));have hz:hxN (l.drop (q+j))=0:=by first | exact qdj (by assumption) (by assumption) | exact qea (by omega)
    have hjj:hxN (l.drop q)=j:=(by omega);exact⟨by unfold un; rw[hq,hjj,hb36,if_neg (by rw[Bool.and_false]; decide)]; rfl,M.bel⟩
  ·have hb35':=of_decide_eq_false hb35;refine sdc A zp hb35 λa A=>?_;refine sdm A λa A=>?_;iterate 4 refine qg A rfl rfl rfl λa A=>?_
   refine sdk (v:=bV false) A λa A=>?_;refine qa (hK34 _ _ (cf A ?_));refine wp_skip (hK33 _ _ (wsk fun K43 hK43=>wrl (sdm A λa A=>?_)));refine sda A λa A=>?_;refine qa (hK43 _ _ (wr1 hret A ?_));have hz:hxN (l.drop (q+j))=0:=by first | exact qdj (by assumption) (by assumption) | exact qea (by omega)
   have hjj:hxN (l.drop q)=j:=(by omega);exact⟨by unfold un; rw[hq,hjj,if_neg (by rw[decide_eq_false (by omega),Bool.false_and]; decide)]; rfl,M.bel⟩
end Go.Proofs.YtjhkejihhpnooaaGreatDoor.G
namespace Go.Proofs.YtjhkejihhpnooaaGreatDoor.C
open Go.RowKit

def qle(r:Int):Bool:=decide ((r≠304∧r≠305∧256≤r∧r≤311)∨(330≤r∧r≤375))
def qzi(r:Int):Bool:=decide ((313≤r∧r≤328)∨(377≤r∧r≤382))
def qsf(r:Int):Int:=
  if 97≤r∧r≤122 then 32
  else if 224≤r∧r≤254∧r≠247 then 32
  else if qle r=true∧r%2=1 then 1
  else if qzi r=true∧r%2=0 then 1
  else if 945≤r∧r≤969∧r≠962 then 32
  else if 1072≤r∧r≤1103 then 32
  else if 1104≤r∧r≤1119 then 80
  else 0

def zgb(r:Int):Int:=
  if qsf (wrap32 (r+1))=1 then 1 else if qsf (wrap32 (r+32))=32 then 32 else if qsf (wrap32 (r+80))=80 then 80 else 0
def zgc(r:Int):Bool:=decide (r=170∨r=181∨r=186∨r=223∨r=255∨r=304∨r=305∨r=312∨r=329∨r=376∨r=383∨r=962)
def qvi(r:Int):Bool:=decide (qsf r≠0∨zgb r≠0)||zgc r
def blankB(r:Int):Bool:=decide (r=9∨r=10∨r=11∨r=12∨r=13∨r=32∨r=133∨r=160∨r=8232∨r=8233)

theorem qeb(r:Int):(qle r=true)=((r≠304∧r≠305∧256≤r∧r≤311)∨(330≤r∧r≤375)):=by simp[qle]
theorem qvj(r:Int):(qle r=false)=¬((r≠304∧r≠305∧256≤r∧r≤311)∨(330≤r∧r≤375)):=by rw[←qeb]; simp
theorem qjj(r:Int):(qzi r=true)=((313≤r∧r≤328)∨(377≤r∧r≤382)):=by simp[qzi]
theorem zgd(r:Int):(qzi r=false)=¬((313≤r∧r≤328)∨(377≤r∧r≤382)):=by rw[←qjj]; simp

theorem zge(r:Int):
    (qsf r=32∧((97≤r∧r≤122)∨(224≤r∧r≤254∧r≠247)∨(945≤r∧r≤969∧r≠962)∨(1072≤r∧r≤1103)))
    ∨ (qsf r = 1 ∧ ((((r ≠ 304 ∧ r ≠ 305 ∧ 256 ≤ r ∧ r ≤ 311) ∨ (330 ≤ r ∧ r ≤ 375)) ∧ r % 2 = 1) ∨ (((313 ≤ r ∧ r ≤ 328) ∨ (377 ≤ r ∧ r ≤ 382)) ∧ r % 2 = 0)))
    ∨ (qsf r = 80 ∧ 1104 ≤ r ∧ r ≤ 1119)
    ∨ (qsf r = 0 ∧ ¬ (97 ≤ r ∧ r ≤ 122) ∧ ¬ (224 ≤ r ∧ r ≤ 254 ∧ r ≠ 247) ∧ ¬ (945 ≤ r ∧ r ≤ 969 ∧ r ≠ 962) ∧ ¬ (1072 ≤ r ∧ r ≤ 1119)
        ∧ ¬ (((r ≠ 304 ∧ r ≠ 305 ∧ 256 ≤ r ∧ r ≤ 311) ∨ (330 ≤ r ∧ r ≤ 375)) ∧ r % 2 = 1) ∧ ¬ (((313 ≤ r ∧ r ≤ 328) ∨ (377 ≤ r ∧ r ≤ 382)) ∧ r % 2 = 0)) := by
  unfold qsf;simp only[qeb,qjj]
  split
  · omega
  · split
    · omega
    · split
      · omega
      · split
        · omega
        · split
          · omega
          · split
            · omega
            · split<;>omega
theorem qnc{k:IntKind}{a b:Int}(h:a=b):Ending.returned (.int k a)=.returned (.int k b):=by rw[h]
theorem ym{a b:Bool}(h:a=b):Ending.returned (.bool a)=.returned (.bool b):=by rw[h]
theorem qoh(r:Int)(w:World):
    Calls Tryz.prog 169 #[.int .i32 r] w fun e w'=>e=.returned (.bool (qle r))∧w'=w:=by
  go_enter Tryz.func169,Tryz.ntmps169
  go_wp2
  all_goals go_ret
  all_goals refine⟨ym ?_,rfl⟩
  all_goals (unfold qle; rw[Bool.eq_iff_iff]; simp at *; omega)
theorem uq(r:Int)(w:World):
    Calls Tryz.prog 170 #[.int .i32 r] w fun e w'=>e=.returned (.bool (qzi r))∧w'=w:=by
  go_enter Tryz.func170,Tryz.ntmps170
  go_wp2
  all_goals go_ret
  all_goals refine⟨ym ?_,rfl⟩
  all_goals (unfold qzi; rw[Bool.eq_iff_iff]; simp at *; try omega)
theorem zqf(r:Int)(w:World):
    Calls Tryz.prog 146 #[.int .i32 r] w fun e w'=>e=.returned (.bool (zgc r))∧w'=w:=by
  go_enter Tryz.func146,Tryz.ntmps146
  go_wp2
  all_goals go_ret
  all_goals refine⟨ym ?_,rfl⟩
  all_goals (unfold zgc; rw[Bool.eq_iff_iff]; simp at *; try omega)
theorem blank_any(r:Int)(w:World):
    Calls Tryz.prog 30 #[.int .i32 r] w fun e w'=>e=.returned (.bool (blankB r))∧w'=w:=by
  go_enter Tryz.func30,Tryz.ntmps30
  go_wp2
  all_goals go_ret
  all_goals refine⟨ym ?_,rfl⟩
  all_goals (unfold blankB; rw[Bool.eq_iff_iff]; simp at *; try omega)
theorem zmf(r:Int)(w:World):
    Calls Tryz.prog 144 #[.int .i32 r] w fun e w'=>e=.returned (.int .i32 (qsf r))∧w'=w:=by
  have HC:Hid _:=zge r;have h0:qle r=true→0≤r:=by rw[qeb]; omega
  have h1:qzi r=true→0≤r:=by rw[qjj]; omega
  by_cases he:qle r=true
  · have hr:=h0 he;clear h0 h1
    go_enter Tryz.func144,Tryz.ntmps144
    go_wp2_with (first | (go_at_call 169; refine(qoh _ _).mono ?_; rintro e w' ⟨rfl,rfl⟩) | (go_at_call 170; refine(uq _ _).mono ?_; rintro e w' ⟨rfl,rfl⟩))
    all_goals go_ret
    all_goals refine⟨qnc ?_,rfl⟩
    all_goals (have hc:=HC.out; go_light; simp only[qeb,qjj,qvj,zgd,Bool.not_eq_true,beq_iff_eq,bne_iff_ne,beq_eq_false_iff_ne,bne_eq_false_iff_eq,ne_eq]at *; omega)
  · by_cases ho:qzi r=true
    · have hr:=h1 ho;clear h0 h1
      go_enter Tryz.func144,Tryz.ntmps144
      go_wp2_with (first | (go_at_call 169; refine(qoh _ _).mono ?_; rintro e w' ⟨rfl,rfl⟩) | (go_at_call 170; refine(uq _ _).mono ?_; rintro e w' ⟨rfl,rfl⟩))
      all_goals go_ret
      all_goals refine⟨qnc ?_,rfl⟩
      all_goals (have hc:=HC.out; go_light; simp only[qeb,qjj,qvj,zgd,Bool.not_eq_true,beq_iff_eq,bne_iff_ne,beq_eq_false_iff_ne,bne_eq_false_iff_eq,ne_eq]at *; omega)
    · clear h0 h1
      go_enter Tryz.func144,Tryz.ntmps144
      go_wp2_with (first | (go_at_call 169; refine(qoh _ _).mono ?_; rintro e w' ⟨rfl,rfl⟩) | (go_at_call 170; refine(uq _ _).mono ?_; rintro e w' ⟨rfl,rfl⟩))
      all_goals go_ret
      all_goals refine⟨qnc ?_,rfl⟩
      all_goals (have hc:=HC.out; go_light; simp only[qeb,qjj,qvj,zgd,Bool.not_eq_true,beq_iff_eq,bne_iff_ne,beq_eq_false_iff_ne,bne_eq_false_iff_eq,ne_eq]at *; omega)
theorem zgf(r:Int)(w:World):
    Calls Tryz.prog 145 #[.int .i32 r] w fun e w'=>e=.returned (.int .i32 (zgb r))∧w'=w:=by
  go_enter Tryz.func145,Tryz.ntmps145
  go_wp2_with (go_at_call 144; refine(zmf _ _).mono ?_; rintro e w' ⟨rfl,rfl⟩)
  all_goals go_ret
  all_goals refine⟨qnc ?_,rfl⟩
  all_goals (unfold zgb; simp at *; simp[*])
theorem zgg(r:Int)(w:World):
    Calls Tryz.prog 124 #[.int .i32 r] w fun e w'=>e=.returned (.bool (qvi r))∧w'=w:=by
  go_enter Tryz.func124,Tryz.ntmps124
  go_wp2_with (first | (go_at_call 144; refine(zmf _ _).mono ?_; rintro e w' ⟨rfl,rfl⟩) | (go_at_call 145; refine(zgf _ _).mono ?_; rintro e w' ⟨rfl,rfl⟩) | (go_at_call 146; refine(zqf _ _).mono ?_; rintro e w' ⟨rfl,rfl⟩))
  all_goals go_ret
  all_goals refine⟨ym ?_,rfl⟩
  all_goals (unfold qvi; simp at *; first | omega | simp[*])
end Go.Proofs.YtjhkejihhpnooaaGreatDoor.C
namespace Go.Proofs
open Go.Shelf
def Tryz.lays151_ren: Go.Shelf.Ren:=⟨fun | 151=>115 | 152=>71 | 137=>105 | 119=>67 | 224=>106 | 225=>107 | 217=>133 | 266=>152 | n=>n,fun | 9=>9 | 21=>21 | 4=>4 | 3=>3 | 5=>5 | 0=>0 | 46=>71 | n=>n,fun | n=>n⟩
theorem Tryz.lays151: Go.Proofs.Lays.n151 Tryz.prog Tryz.lays151_ren:={
  mixed:=by kernel_rfl
  f119:=Tryz.func67.trans (congrArg some (by kernel_rfl))
  f137:=Tryz.func105.trans (congrArg some (by kernel_rfl))
  f151:=Tryz.func115.trans (congrArg some (by kernel_rfl))
  f152:=Tryz.func71.trans (congrArg some (by kernel_rfl))
  f217:=Tryz.func133.trans (congrArg some (by kernel_rfl))
  f224:=Tryz.func106.trans (congrArg some (by kernel_rfl))
  f225:=Tryz.func107.trans (congrArg some (by kernel_rfl))
  f266:=Tryz.func152.trans (congrArg some (by kernel_rfl))
  t0:=Tryz.underlying0
  a0:=Tryz.isAgg0
  z0:=Tryz.sizeOf0
  v0:=Tryz.zeroValue0
  t3:=Tryz.underlying3
  a3:=Tryz.isAgg3
  z3:=Tryz.sizeOf3
  v3:=Tryz.zeroValue3
  t4:=Tryz.underlying4
  a4:=Tryz.isAgg4
  z4:=Tryz.sizeOf4
  v4:=Tryz.zeroValue4
  t5:=Tryz.underlying5
  a5:=Tryz.isAgg5
  z5:=Tryz.sizeOf5
  v5:=Tryz.zeroValue5
  t9:=Tryz.underlying9
  a9:=Tryz.isAgg9
  z9:=Tryz.sizeOf9
  v9:=Tryz.zeroValue9
  t21:=Tryz.underlying21
  a21:=Tryz.isAgg21
  z21:=Tryz.sizeOf21
  v21:=Tryz.zeroValue21
  t46:=Tryz.underlying71
  a46:=Tryz.isAgg71
  z46:=Tryz.sizeOf71
  v46:=Tryz.zeroValue71 }
open Go.RowKit Go.Lib in
theorem Tryz.strings_ContainsRune_ascii(s:ByteArray)(r:Int)(w:World)(h0:0≤r)(h1:r<128):
    Calls Tryz.prog 115 #[.string s,.int .i32 r] w fun e w'=>e=.returned (.bool (decide (0≤Lib.indexByte s.data.toList r.toNat.toUInt8)))∧w'=w:=Any.strings_ContainsRune_ascii Tryz.lays151 s r w h0 h1
def Tryz.laysAppend_ren: Go.Shelf.Ren:=⟨fun | 242=>84 | 278=>114 | n=>n,fun | 37=>27 | 21=>21 | 51=>99 | 4=>4 | 5=>5 | 46=>71 | n=>n,fun | n=>n⟩
theorem Tryz.laysAppend: Go.Proofs.Lays.n242 Tryz.prog Tryz.laysAppend_ren:={
  mixed:=by kernel_rfl
  f242:=Tryz.func84.trans (congrArg some (by kernel_rfl))
  f278:=Tryz.func114.trans (congrArg some (by kernel_rfl))
  t4:=Tryz.underlying4
  a4:=Tryz.isAgg4
  z4:=Tryz.sizeOf4
  v4:=Tryz.zeroValue4
  t5:=Tryz.underlying5
  a5:=Tryz.isAgg5
  z5:=Tryz.sizeOf5
  v5:=Tryz.zeroValue5
  t21:=Tryz.underlying21
  a21:=Tryz.isAgg21
  z21:=Tryz.sizeOf21
  v21:=Tryz.zeroValue21
  t37:=Tryz.underlying27
  a37:=Tryz.isAgg27
  z37:=Tryz.sizeOf27
  v37:=Tryz.zeroValue27
  t46:=Tryz.underlying71
  a46:=Tryz.isAgg71
  z46:=Tryz.sizeOf71
  v46:=Tryz.zeroValue71
  t51:=Tryz.underlying99
  a51:=Tryz.isAgg99
  z51:=Tryz.sizeOf99
  v51:=Tryz.zeroValue99 }
def Tryz.lays119_ren: Go.Shelf.Ren:=⟨fun | 119=>67 | n=>n,fun | 21=>21 | 4=>4 | n=>n,fun | n=>n⟩
theorem Tryz.lays119: Go.Proofs.Lays.n119 Tryz.prog Tryz.lays119_ren:={
  mixed:=by kernel_rfl
  f119:=Tryz.func67.trans (congrArg some (by kernel_rfl))
  t4:=Tryz.underlying4
  a4:=Tryz.isAgg4
  z4:=Tryz.sizeOf4
  v4:=Tryz.zeroValue4
  t21:=Tryz.underlying21
  a21:=Tryz.isAgg21
  z21:=Tryz.sizeOf21
  v21:=Tryz.zeroValue21 }
theorem Tryz.utf8_ValidRune(r:Int)(w:World):
    Calls Tryz.prog 67 #[.int .i32 r] w fun e w'=>e=.returned (.bool (Lib.validRune r))∧w'=w:=Any.utf8_ValidRune Tryz.lays119 r w
def Tryz.laysValid_ren: Go.Shelf.Ren:=⟨fun | 196=>24 | 259=>41 | n=>n,fun | 9=>9 | 4=>4 | 3=>3 | 5=>5 | 12=>12 | 119=>67 | 0=>0 | 46=>71 | 139=>70 | 138=>69 | 53=>94 | n=>n,fun | 3=>0 | 4=>1 | n=>n⟩
theorem Tryz.laysValid: Go.Proofs.Lays.n196 Tryz.prog Tryz.laysValid_ren:={
  mixed:=by kernel_rfl
  f196:=Tryz.func24.trans (congrArg some (by kernel_rfl))
  f259:=Tryz.func41.trans (congrArg some (by kernel_rfl))
  t0:=Tryz.underlying0
  a0:=Tryz.isAgg0
  z0:=Tryz.sizeOf0
  v0:=Tryz.zeroValue0
  t3:=Tryz.underlying3
  a3:=Tryz.isAgg3
  z3:=Tryz.sizeOf3
  v3:=Tryz.zeroValue3
  t4:=Tryz.underlying4
  a4:=Tryz.isAgg4
  z4:=Tryz.sizeOf4
  v4:=Tryz.zeroValue4
  t5:=Tryz.underlying5
  a5:=Tryz.isAgg5
  z5:=Tryz.sizeOf5
  v5:=Tryz.zeroValue5
  t9:=Tryz.underlying9
  a9:=Tryz.isAgg9
  z9:=Tryz.sizeOf9
  v9:=Tryz.zeroValue9
  t12:=Tryz.underlying12
  a12:=Tryz.isAgg12
  z12:=Tryz.sizeOf12
  v12:=Tryz.zeroValue12
  t46:=Tryz.underlying71
  a46:=Tryz.isAgg71
  z46:=Tryz.sizeOf71
  v46:=Tryz.zeroValue71
  t53:=Tryz.underlying94
  a53:=Tryz.isAgg94
  z53:=Tryz.sizeOf94
  v53:=Tryz.zeroValue94
  t119:=Tryz.underlying67
  a119:=Tryz.isAgg67
  z119:=Tryz.sizeOf67
  t138:=Tryz.underlying69
  a138:=Tryz.isAgg69
  z138:=Tryz.sizeOf69
  v138:=Tryz.zeroValue69
  t139:=Tryz.underlying70
  a139:=Tryz.isAgg70
  z139:=Tryz.sizeOf70
  v139:=Tryz.zeroValue70
  g3:=by kernel_rfl
  g4:=by kernel_rfl }
end Go.Proofs
namespace Go.Proofs.YtjhkejihhpnooaaGreatDoor.C
open Go.RowKit

def Asc(s:ByteArray):Prop:=∀(j:Nat) b,s.data.toList[j]?=some b→b.toNat<128
set_option maxRecDepth 1000000 in
theorem zqg(s:ByteArray)(hs:Asc s)(w:World):Calls Tryz.prog 71 #[.string s,.int .i32 65533] w fun e w'=>e=.returned (.int .i64 (-1))∧Below w.heap.size w w':=by
  go_enter Tryz.func71,Tryz.ntmps71
  go_wp2
  go_loopw [] (fun wr=>∃(pos:Nat),wr.heap[w.heap.size]?=some (.stringIter s pos)∧Below w.heap.size w wr) (fun wr=>s.size-wr.iterPos w.heap.size)
  case atStart=>
    refine⟨0,?_,(Below.refl _ w).alloc (Nat.le_refl _) _⟩;simpa using World.iter_heap w s 0
  case round=>
    obtain⟨pos,hit,hbw⟩:=hrel;have hsz:w.heap.size<wr.heap.size:=(Array.getElem?_eq_some_iff.1 hit).1;by_cases hp:pos<s.size
    · have hnx:∀ty,(Instr.next (.pointer (some ⟨w.heap.size,0,none⟩)) true ty).run Tryz.prog wr=_:=fun ty=>Lib.run_next_any_at wr w.heap.size s pos ty hit hp;have ha:(s[pos]'hp).toNat<128:=hs pos _ (by simp[hp]; rfl);have hd:=decode_ascii s pos hp ha;have hit2:=Lib.iterAt_heap wr w.heap.size s pos (pos+1) hit;have hbw2:=Lib.below_iterAt hbw (k:=w.heap.size) (by omega) s (pos+1);rw[hd]at hnx;have hq:((((s[pos]'hp).toNat:Nat):Int)==65533)=false:=by simp; omega
      go_wp2
      go_roundw
      case rel=>exact⟨pos+1,hit2,hbw2⟩
      case measure=>
        simp only[World.iterPos,hit2,hit];omega
    · have hnx:∀ty,(Instr.next (.pointer (some ⟨w.heap.size,0,none⟩)) true ty).run Tryz.prog wr=_:=fun ty=>Lib.run_next_end_at wr w.heap.size s pos ty hit hp
      go_wp2
      go_ret
      exact⟨rfl,hbw⟩
theorem qtd{c:UInt8}:∀l:List UInt8,(∀b∈l,b≠c)→Lib.indexByte l c=-1
  | [], _ => rfl
  | b :: l, h => by
    have h1:b≠c:=h b (by simp);have h2:=qtd l (fun x hx=>h x (by simp[hx]));simp[Lib.indexByte,h1,h2]
set_option maxRecDepth 1000000 in
theorem zqh(s:ByteArray)(hs:Asc s)(h4:4≤s.size)(h5:s.size≤100)(r:Int)(h0:128≤r)(h1:r≤1114111)(hl:Lib.validRune r=true)(hr:r≠65533)(w:World):Calls Tryz.prog 71 #[.string s,.int .i32 r] w fun e w'=>e=.returned (.int .i64 (-1))∧Below w.heap.size w w':=by
  go_enter Tryz.func71,Tryz.ntmps71
  go_wp2_with (go_at_call 67; refine(Tryz.utf8_ValidRune _ _).mono ?_; rintro e w' ⟨rfl,rfl⟩)
  have hv:Utf8.valid r=true:=by
    rw[validRune_eq]; unfold validRune; unfold Lib.validRune at hl; apply decide_eq_true; have:=of_decide_eq_true hl; omega
  have hE:2≤(Utf8.encode r).size∧(Utf8.encode r).size≤4∧∀h:(Utf8.encode r).size-1<(Utf8.encode r).size,128≤((Utf8.encode r)[(Utf8.encode r).size-1]'h).toNat:=encode_facts r hv h0;have hcv:∀w,(convert 21 9 (.int .i32 r)).run Tryz.prog w=.ok (.string (Utf8.encode r)) w:=fun w=>run_convert_int_string w _ _ .i32 r (by kernel_rfl) Tryz.underlying9;refine wp_scope_straight ?_
  go_wp2
  have mixed:Tryz.prog.follows .mixedOrders=true:=by kernel_rfl
  obtain⟨m,hm⟩:∃m:Nat,(Utf8.encode r).size=m+1:=⟨(Utf8.encode r).size-1,by omega⟩;have hm0:(((Utf8.encode r).size:Int)-1)=((m:Nat):Int):=by omega
  have hi1:m<s.size:=by omega
  have hi2:m<(Utf8.encode r).size:=by omega
  have hE3:128≤((Utf8.encode r)[m]'hi2).toNat:=by
    have:=hE.2.2;simp only[hm,Nat.add_sub_cancel]at this;exact this (by omega)
  have hsm:(s[m]'hi1).toNat<128:=hs m _ (by simp[hi1]; rfl);have hq:((s[m]'hi1).toNat != ((Utf8.encode r)[m]'hi2).toNat)=true:=by simp; omega
  clear hE hm
  go_loop [9] (fun i=>i=.int .i64 ((m:Nat):Int)) (fun i=>0)
  case atStart=>rw[hm0]
  case round=>
    subst hrel;rw[hm0]
    go_wp2
    refine wp_scope_straight ?_
    go_wp2
    go_region_o
    all_goals go_wp2
    have hib:Lib.indexByte (List.take (s.size-(m+1)) (List.drop (m+1) s.data.toList)) ((Utf8.encode r)[m]'hi2)=-1:=qtd _ (fun b hb=>by
      obtain⟨k,hk,hkb⟩:=List.getElem_of_mem (List.mem_of_mem_drop (List.mem_of_mem_take hb));have:=hs k b (by rw[List.getElem?_eq_getElem hk,hkb]);intro e;rw[e]at this;omega)
    have hsl:((m:Nat):Int)+1≤(s.size:Int):=(by omega);have hsn:m+1≤s.size:=(by omega);have hs0:(0:Int)≤((m:Nat):Int)+1:=(by omega);have hsr:∀w k,(Instr.slice 9 (.string s) (some (.int k (((m:Nat):Int)+1))) none none).run Tryz.prog w=.ok (.string (s.extract (m+1) s.size)) w:=fun w k=>by
      rw[run_slice_string_from_if w _ s k _ Tryz.underlying9,if_pos ⟨hs0,hsl⟩]; rfl
    have hwr:IntKind.i64.wrap (((m:Nat):Int)+1)=((m:Nat):Int)+1:=wrap_small _ (by omega) (by omega);clear hsl hsn hs0
    go_region_with_o (go_at_call 105; refine(Tryz.strings_IndexByte _ _ _).mono ?_; rintro e w2 ⟨rfl,rfl⟩)
    all_goals go_wp2
    all_goals (show bodyPost Tryz.prog Tryz.f71 (fun e w1=>e=Ending.returned (Value.int .i64 (-1))∧Below w'.heap.size w' w1) .ret _ _; go_ret; exact⟨rfl,((Below.refl _ _).drew).drew⟩)
def OkR(r:Int):Prop:=(0≤r∧r<55296)∨(57343<r∧r≤1114111)
theorem OkR.valid{r:Int}(h:OkR r):Lib.validRune r=true:=decide_eq_true h
theorem qoi(s:ByteArray)(hs:Asc s)(h4:4≤s.size)(h5:s.size≤100)(r:Int)(h:OkR r)(h0:128≤r)(w:World):Calls Tryz.prog 115 #[.string s,.int .i32 r] w fun e w'=>e=.returned (.bool false)∧Below w.heap.size w w':=by
  have HC:Hid (Calls Tryz.prog 71 #[.string s,.int .i32 r] w fun e w'=>e=.returned (.int .i64 (-1))∧Below w.heap.size w w'):=by
    by_cases hr:r=65533
    · subst hr; exact zqg s hs w
    · exact zqh s hs h4 h5 r h0 (by unfold OkR at h; omega) h.valid hr w
  go_enter Tryz.func115,Tryz.ntmps115
  go_wp2_with (go_at_call 71; refine HC.out.mono ?_; rintro e w' ⟨rfl,hb⟩)
  go_ret
  exact⟨rfl,hb⟩
def S4: ByteArray:=⟨#[43,45,46,64]⟩
def S14: ByteArray:=⟨#[33,36,37,38,42,47,58,60,61,62,63,94,95,126]⟩
theorem jrh: Asc S4:=fun j b h=>(by decide +kernel:∀b∈S4.data.toList,b.toNat<128) b (List.mem_of_getElem? h)
theorem jni: Asc S14:=fun j b h=>(by decide +kernel:∀b∈S14.data.toList,b.toNat<128) b (List.mem_of_getElem? h)
def in4(r:Int):Bool:=decide (r=43∨r=45∨r=46∨r=64)
def zvg(r:Int):Bool:=decide (r=33∨r=36∨r=37∨r=38∨r=42∨r=47∨r=58∨r=60∨r=61∨r=62∨r=63∨r=94∨r=95∨r=126)
theorem ix4: ∀k:Nat,k<128→decide (0≤Lib.indexByte S4.data.toList (k:Int).toNat.toUInt8)=in4 k:=by decide +kernel
theorem jri: ∀k:Nat,k<128→decide (0≤Lib.indexByte S14.data.toList (k:Int).toNat.toUInt8)=zvg k:=by decide +kernel
theorem jnj(r:Int)(h:OkR r)(w:World):Calls Tryz.prog 115 #[.string S4,.int .i32 r] w fun e w'=>e=.returned (.bool (in4 r))∧Below w.heap.size w w':=by
  by_cases hr:r<128
  · have h0:0≤r:=(by unfold OkR at h; omega);refine(Tryz.strings_ContainsRune_ascii S4 r w h0 hr).mono ?_;rintro e w' ⟨rfl,rfl⟩;have:=ix4 r.toNat (by omega);rw[Int.toNat_of_nonneg h0]at this;exact⟨by rw[this],Below.refl _ _⟩
  · refine(qoi S4 jrh (by decide) (by decide) r h (by omega) w).mono ?_;rintro e w' ⟨rfl,hb⟩;exact⟨by rw[show in4 r=false from by unfold in4; apply decide_eq_false; omega],hb⟩
theorem jke(r:Int)(h:OkR r)(w:World):Calls Tryz.prog 115 #[.string S14,.int .i32 r] w fun e w'=>e=.returned (.bool (zvg r))∧Below w.heap.size w w':=by
  by_cases hr:r<128
  · have h0:0≤r:=(by unfold OkR at h; omega);refine(Tryz.strings_ContainsRune_ascii S14 r w h0 hr).mono ?_;rintro e w' ⟨rfl,rfl⟩;have:=jri r.toNat (by omega);rw[Int.toNat_of_nonneg h0]at this;exact⟨by rw[this],Below.refl _ _⟩
  · refine(qoi S14 jni (by decide) (by decide) r h (by omega) w).mono ?_;rintro e w' ⟨rfl,hb⟩;exact⟨by rw[show zvg r=false from by unfold zvg; apply decide_eq_false; omega],hb⟩
def firstB(r:Int):Bool:=qvi r||zvg r||(decide (127<r) && !blankB r)
def restB(r:Int):Bool:=decide (48≤r∧r≤57)||in4 r
def S6: ByteArray:=⟨#[40,41,91,93,34,59]⟩
theorem jrj: Asc S6:=fun j b h=>(by decide +kernel:∀b∈S6.data.toList,b.toNat<128) b (List.mem_of_getElem? h)
def in6(r:Int):Bool:=decide (r=40∨r=41∨r=91∨r=93∨r=34∨r=59)
theorem ix6: ∀k:Nat,k<128→decide (0≤Lib.indexByte S6.data.toList (k:Int).toNat.toUInt8)=in6 k:=by decide +kernel
theorem joa(r:Int)(h:OkR r)(w:World):Calls Tryz.prog 115 #[.string S6,.int .i32 r] w fun e w'=>e=.returned (.bool (in6 r))∧Below w.heap.size w w':=by
  by_cases hr:r<128
  · have h0:0≤r:=(by unfold OkR at h; omega);refine(Tryz.strings_ContainsRune_ascii S6 r w h0 hr).mono ?_;rintro e w' ⟨rfl,rfl⟩;have:=ix6 r.toNat (by omega);rw[Int.toNat_of_nonneg h0]at this;exact⟨by rw[this],Below.refl _ _⟩
  · refine(qoi S6 jrj (by decide) (by decide) r h (by omega) w).mono ?_;rintro e w' ⟨rfl,hb⟩;exact⟨by rw[show in6 r=false from by unfold in6; apply decide_eq_false; omega],hb⟩
def delimB(r:Int):Bool:=blankB r||in6 r
theorem delimits_any(r:Int)(h:OkR r)(w:World):Calls Tryz.prog 85 #[.int .i32 r] w fun e w'=>e=.returned (.bool (delimB r))∧Below w.heap.size w w':=by
  have HC:Hid _:=joa r h w;clear h
  go_enter Tryz.func85,Tryz.ntmps85
  go_wp2_with (first | (go_at_call 115; refine Calls.mono HC.out ?_; rintro e w' ⟨rfl,hb⟩) | (go_at_call 30; refine(blank_any _ _).mono ?_; rintro e w' ⟨rfl,rfl⟩))
  all_goals go_ret
  all_goals refine⟨ym ?_,by first | assumption | exact Below.refl _ _⟩
  all_goals (show(_:Bool)=delimB r; unfold delimB; simp[*])
theorem isRestD_any(r:Int)(h:OkR r)(w:World):Calls Tryz.prog 99 #[.int .i32 r] w fun e w'=>e=.returned (.bool (restB r))∧Below w.heap.size w w':=by
  have HC:Hid _:=jnj r h w;clear h
  go_enter Tryz.func99,Tryz.ntmps99
  go_wp2_with (go_at_call 115; refine Calls.mono HC.out ?_; rintro e w' ⟨rfl,hb⟩)
  all_goals go_ret
  all_goals refine⟨ym ?_,by first | assumption | exact Below.refl _ _⟩
  all_goals (show(_:Bool)=restB r; unfold restB; cases in4 r<;>simp at * <;> omega)
theorem isFirstD_any(r:Int)(h:OkR r)(w:World):Calls Tryz.prog 97 #[.int .i32 r] w fun e w'=>e=.returned (.bool (firstB r))∧Below w.heap.size w w':=by
  have HC:Hid _:=jke r h w;clear h
  go_enter Tryz.func97,Tryz.ntmps97
  go_wp2_with (first | (go_at_call 115; refine Calls.mono HC.out ?_; rintro e w' ⟨rfl,hb⟩) | (go_at_call 124; refine(zgg _ _).mono ?_; rintro e w' ⟨rfl,rfl⟩) | (go_at_call 30; refine(blank_any _ _).mono ?_; rintro e w' ⟨rfl,rfl⟩))
  all_goals go_ret
  all_goals refine⟨ym ?_,by first | assumption | exact Below.refl _ _⟩
  all_goals (show(_:Bool)=firstB r; unfold firstB; simp[*]; try (intro _; omega))
end Go.Proofs.YtjhkejihhpnooaaGreatDoor.C
namespace Go.Proofs.YtjhkejihhpnooaaGreatDoor.G
open Go.RowKit
set_option maxRecDepth 100000

theorem qdc(l:List UInt8):C.OkR (((dcX l).1:Nat):Int):=by
 by_cases h:l=[]
 ·subst h; exact .inr ⟨by decide,by decide⟩
 ·rw[zga h];have:=qof l;unfold C.OkR;omega
def qbd: Nat→List UInt8→Nat
 | 0, _ => 0
 | f + 1, l => if l.isEmpty = true then 0 else if C.delimB (((dcX l).1 : Nat) : Int) = true then 0 else (if (((dcX l).1 : Nat) : Int) = 92 then (dcX l).2 + un (l.drop (dcX l).2) else (dcX l).2) + qbd f (l.drop (if (((dcX l).1 : Nat) : Int) = 92 then (dcX l).2 + un (l.drop (dcX l).2) else (dcX l).2))
theorem jee(f:Nat):qbd f []=0:=by cases f<;>rfl
theorem zvh{f:Nat}{l:List UInt8}(hd:C.delimB (((dcX l).1:Nat):Int)=true):qbd f l=0:=by
 cases f with
 | zero => rfl
 | succ f =>
  rw[qbd];by_cases he:l.isEmpty=true
  ·rw[if_pos he]
  ·rw[if_neg he,if_pos hd]
theorem zvi{f:Nat}{l:List UInt8}{m:Nat}(hne:l≠[])(hd:C.delimB (((dcX l).1:Nat):Int)=false)(hm:(if(((dcX l).1:Nat):Int)=92 then(dcX l).2+un (l.drop (dcX l).2)else(dcX l).2)=m):qbd (f+1) l=m+qbd f (l.drop m):=by
 rw[qbd,if_neg (fun k=>hne (List.isEmpty_iff.1 k)),if_neg (by rw[hd]; decide),hm]
theorem qzj{w:World}{r:Int}{b:Bool}(h:C.OkR r)(hb:C.delimB r=b):Calls Tryz.prog 85 #[.int .i32 r] w fun e w'=>e=.returned (bV b)∧Below w.heap.size w w':=hb▸C.delimits_any r h w
theorem qka{w:World}{l:List UInt8}(hT:Tb w)(hl:l.length≤1000000000):Calls Tryz.prog 61 #[.string (tx l)] w fun e w'=>e=.returned (.string (tx (l.take (qbd (l.length+1) l))))∧Below w.heap.size w w':=by
 have M:Mg w w ([]):=Mg.start w;refine qn (l:=[(0,.string ((tx l)))]) Tryz.func61 rfl Tryz.ntmps61 rfl rfl ?_;intro Q hret hnorm hP a A;refine wsk fun K1 hK1=>wrl (sda A λa A=>?_);refine qa (hK1 _ _ (wsk fun K2 hK2=>wrl (sda A λa A=>?_)));refine qa (hK2 _ _ (wsk fun K3 hK3=>wp_block (jd (fun m_ a w1=>∃(n:Nat) (f:Nat),m_=1+(l.length-n)∧(n≤l.length∧l.length-n<f∧qbd (l.length+1) l=n+qbd f (l.drop n))∧Sl a 33 [(0,.string ((tx l))),(2,.string (⟨#[]⟩)),(3,iV (((n:Nat):Int)))]∧Mg w w1 ([])) _ ⟨0,l.length+1,rfl,⟨Nat.zero_le _,by omega,by rw[Nat.zero_add]; rfl⟩,A.keep _ ⟨rfl,rfl,rfl,trivial⟩,M⟩ ?_)));clear M A;rintro m_ a w4 ⟨n,f,rfl,hinv6,A,M⟩ K5 hK5;obtain⟨hn0,hf0,hn⟩:=hinv6;obtain⟨f,rfl⟩:∃f1,f=f1+1:=⟨f-1,by omega⟩;refine wsk fun K7 hK7=>wsk fun K8 hK8=>wrl ?_;iterate 2 refine sdm A λa A=>?_
 refine sdo (v:=iV (((l.length:Nat):Int))) A (xx (s:=l) Tryz.underlying9 rfl) λa A=>?_;rcases tf (decide (((n:Nat):Int)<((l.length:Nat):Int)))with hb9 | hb9
 ·have hb9':=of_decide_eq_true hb9;refine sdc A zr hb9 λa A=>?_;refine qa (hK8 _ _ (ct A ?_));refine wp_skip (hK7 _ _ (wp_block (wsk fun K10 hK10=>wrl ?_)));iterate 2 refine sdm A λa A=>?_
  refine sdo (v:=.string ((tx (l.drop n)))) A (vy (s:=l) (p:=n) Tryz.underlying9 rfl rfl rfl (by omega)) λa A=>?_;have hne:l.drop n≠[]:=fun k=>by have:=congrArg List.length k; rw[List.length_drop]at this; simp at this; omega
  obtain⟨hw1,hw2⟩:=vp hne;rw[List.length_drop]at hw2;refine gcl A M (ef rfl rfl) (qji (l:=l.drop n) (hT.below M.bel)) fun w12 hb11 M a A=>?_;refine sdm A λa A=>?_;iterate 2 refine sdo A (qi (vs:=[.int .i32 ((((dcX (l.drop n)).1:Nat):Int)),iV ((((dcX (l.drop n)).2:Nat):Int))]) rfl rfl) λa A=>?_
  iterate 2 refine sda A λa A=>?_
  refine qa (hK10 _ _ (wsk fun K13 hK13=>wsk fun K14 hK14=>wrl (sdm A λa A=>?_)));rcases tf (C.delimB (((dcX (l.drop n)).1:Nat):Int))with hb15 | hb15
  ·refine gcl A M (ef rfl rfl) ((qzj (qdc _) hb15)) fun w17 hb16 M a A=>?_;refine qa (hK14 _ _ (ct A ?_));refine wp_exit (hK3 _ _ (wsk fun K18 hK18=>wrl ?_));iterate 2 refine sdm A λa A=>?_
   refine sdo (v:=.string ((tx (l.take n)))) A (qge (s:=l) (p:=n) Tryz.underlying9 rfl rfl rfl (by omega)) λa A=>?_;refine sda A λa A=>?_;refine qa (hK18 _ _ (wr1 hret A ?_));exact⟨by rw[hn,show qbd (f+1) (l.drop n)=0 from zvh hb15,Nat.add_zero],M.bel⟩
  ·refine gcl A M (ef rfl rfl) ((qzj (qdc _) hb15)) fun w20 hb19 M a A=>?_;refine qa (hK14 _ _ (cf A ?_));refine wp_skip (hK13 _ _ (wsk fun K21 hK21=>wrl ?_));iterate 2 refine sdm A λa A=>?_
   refine sdo (v:=iV (((n+(dcX (l.drop n)).2:Nat):Int))) A (qe rfl rfl (ar_add ((in_i64 (by omega) (by omega)).trans (by omega)))) λa A=>?_;refine sda A λa A=>?_;refine qa (hK21 _ _ (wsk fun K22 hK22=>wrl (sdm A λa A=>?_)));rcases tf (((((dcX (l.drop n)).1:Nat):Int)==92))with hb23 | hb23
   ·have hb23':=eq_of_beq hb23;refine sdc A qf hb23 λa A=>?_;refine qa (hK22 _ _ (ct A ?_));refine wrl ?_;iterate 3 refine sdm A λa A=>?_
    refine sdo (v:=.string ((tx (l.drop (n+(dcX (l.drop n)).2))))) A (vy (s:=l) (p:=n+(dcX (l.drop n)).2) Tryz.underlying9 rfl rfl rfl (by omega)) λa A=>?_;have ht25:=zvd (l.drop (n+(dcX (l.drop n)).2));rw[List.length_drop]at ht25;refine gcl A M (ef rfl rfl) (zvf (l:=l.drop (n+(dcX (l.drop n)).2)) (hT.below M.bel) (by rw[List.length_drop]; omega)) fun w26 hb24 M a A=>?_;refine sdo (v:=iV (((n+(dcX (l.drop n)).2+un (l.drop (n+(dcX (l.drop n)).2)):Nat):Int))) A (qe rfl rfl (ar_add ((in_i64 (by omega) (by omega)).trans (by omega)))) λa A=>?_;refine sda A λa A=>?_;refine qa ?_;have e7:=zvi (f:=f) hne hb15 (if_pos (eq_of_beq hb23));simp only[List.drop_drop]at e7;refine hK5 _ _ _ (by omega) ⟨n+(dcX (l.drop n)).2+un (l.drop (n+(dcX (l.drop n)).2)),f,rfl,⟨by omega,by omega,by rw[hn,e7,Nat.add_assoc n (dcX (l.drop n)).2 _]; exact(Nat.add_assoc _ _ _).symm⟩,A.keep _ ⟨rfl,rfl,rfl,trivial⟩,M⟩
   ·have hb23':=ne_of_beq_false hb23;refine sdc A qf hb23 λa A=>?_;refine qa (hK22 _ _ (cf A ?_));refine wp_skip ?_;refine hK5 _ _ _ (by omega) ⟨n+(dcX (l.drop n)).2,f,rfl,⟨by omega,by omega,by rw[hn,zvi hne hb15 (if_neg (ne_of_beq_false hb23)),List.drop_drop,Nat.add_assoc]⟩,A.keep _ ⟨rfl,rfl,rfl,trivial⟩,M⟩
 ·have hb9':=of_decide_eq_false hb9;refine sdc A zr hb9 λa A=>?_;refine qa (hK8 _ _ (cf A ?_));refine wp_exit (hK3 _ _ (wsk fun K27 hK27=>wrl ?_));iterate 2 refine sdm A λa A=>?_
  refine sdo (v:=.string ((tx (l.take n)))) A (qge (s:=l) (p:=n) Tryz.underlying9 rfl rfl rfl (by omega)) λa A=>?_;refine sda A λa A=>?_;refine qa (hK27 _ _ (wr1 hret A ?_));exact⟨by rw[hn,show qbd (f+1) (l.drop n)=0 from(by rw[List.drop_eq_nil_of_le (by omega)]; exact jee _),Nat.add_zero],M.bel⟩
def yv(l:List UInt8):Option Int:=if l=[110,117,108]then some 0 else if l=[97,108,97,114,109]then some 7 else if l=[98,97,99,107,115,112,97,99,101]then some 8 else if l=[116,97,98]then some 9 else if l=[108,105,110,101,102,101,101,100]then some 10 else if l=[110,101,119,108,105,110,101]then some 10 else if l=[118,116,97,98]then some 11 else if l=[112,97,103,101]then some 12 else if l=[114,101,116,117,114,110]then some 13 else if l=[101,115,99]then some 27 else if l=[115,112,97,99,101]then some 32 else if l=[100,101,108,101,116,101]then some 127 else none
def qkb(l:List UInt8):Bool:=decide (l.take (qbd (l.length+1) l)=[46])
theorem zmg{l:List UInt8}(h:l.take (qbd (l.length+1) l)=[46]):Lib.hasPrefix l [46]=true:=by
 refine List.isPrefixOf_iff_prefix.2 ?_;rw[←h];exact List.take_prefix _ _
theorem zqi{w:World}{l:List UInt8}:Calls Tryz.prog 89 #[.string (tx l)] w fun e w'=>e=.returned (.tuple #[.int .i32 ((yv l).getD 0),bV (yv l).isSome])∧Below w.heap.size w w':=by
 have M:Mg w w ([]):=Mg.start w;refine qn (l:=[(0,.string ((tx l)))]) Tryz.func89 rfl Tryz.ntmps89 rfl rfl ?_;intro Q hret hnorm hP a A;refine wsk fun K1 hK1=>wrl ?_;iterate 2 refine sda A λa A=>?_
 refine qa (hK1 _ _ (wsk fun K2 hK2=>wsk fun K3 hK3=>wrl (sdm A λa A=>?_)));refine qa (hK3 _ _ (wp_block (wsk fun K4 hK4=>wrl ?_)));rcases tf (decide (l=[110,117,108]))with hb5 | hb5
 ·have hb5':=of_decide_eq_true hb5;refine sdo (v:=bV true) A (qe rfl rfl (fun w=>(zk (a:=l) (b:=[110,117,108]) Tryz.underlying9 w).trans (by rw[hb5]<;>rfl))) λa A=>?_;refine sda A λa A=>?_;refine qa (hK4 _ _ (ct A ?_));refine wsk fun K6 hK6=>wrl ?_;iterate 2 refine sda A λa A=>?_
  refine qa (hK6 _ _ (wp_ret (hret _ _ (en2 A rfl (qh rfl) (qh rfl) ?_))));exact⟨by unfold yv; rw[if_pos (of_decide_eq_true hb5)]; rfl,M.bel⟩
 ·have hb5':=of_decide_eq_false hb5;refine sdo (v:=bV false) A (qe rfl rfl (fun w=>(zk (a:=l) (b:=[110,117,108]) Tryz.underlying9 w).trans (by rw[hb5]<;>rfl))) λa A=>?_;refine sda A λa A=>?_;refine qa (hK4 _ _ (cf A ?_));refine wsk fun K7 hK7=>wrl ?_;rcases tf (decide (l=[97,108,97,114,109]))with hb8 | hb8
  ·have hb8':=of_decide_eq_true hb8;refine sdo (v:=bV true) A (qe rfl rfl (fun w=>(zk (a:=l) (b:=[97,108,97,114,109]) Tryz.underlying9 w).trans (by rw[hb8]<;>rfl))) λa A=>?_;refine sda A λa A=>?_;refine qa (hK7 _ _ (ct A ?_));refine wsk fun K9 hK9=>wrl ?_;iterate 2 refine sda A λa A=>?_
   refine qa (hK9 _ _ (wp_ret (hret _ _ (en2 A rfl (qh rfl) (qh rfl) ?_))));exact⟨by unfold yv; rw[if_neg (of_decide_eq_false hb5),if_pos (of_decide_eq_true hb8)]; rfl,M.bel⟩
  ·have hb8':=of_decide_eq_false hb8;refine sdo (v:=bV false) A (qe rfl rfl (fun w=>(zk (a:=l) (b:=[97,108,97,114,109]) Tryz.underlying9 w).trans (by rw[hb8]<;>rfl))) λa A=>?_;refine sda A λa A=>?_;refine qa (hK7 _ _ (cf A ?_));refine wsk fun K10 hK10=>wrl ?_;rcases tf (decide (l=[98,97,99,107,115,112,97,99,101]))with hb11 | hb11
   ·have hb11':=of_decide_eq_true hb11;refine sdo (v:=bV true) A (qe rfl rfl (fun w=>(zk (a:=l) (b:=[98,97,99,107,115,112,97,99,101]) Tryz.underlying9 w).trans (by rw[hb11]<;>rfl))) λa A=>?_;refine sda A λa A=>?_;refine qa (hK10 _ _ (ct A ?_));refine wsk fun K12 hK12=>wrl ?_;iterate 2 refine sda A λa A=>?_
    refine qa (hK12 _ _ (wp_ret (hret _ _ (en2 A rfl (qh rfl) (qh rfl) ?_))));exact⟨by unfold yv; rw[if_neg (of_decide_eq_false hb5),if_neg (of_decide_eq_false hb8),if_pos (of_decide_eq_true hb11)]; rfl,M.bel⟩
   ·have hb11':=of_decide_eq_false hb11;refine sdo (v:=bV false) A (qe rfl rfl (fun w=>(zk (a:=l) (b:=[98,97,99,107,115,112,97,99,101]) Tryz.underlying9 w).trans (by rw[hb11]<;>rfl))) λa A=>?_;refine sda A λa A=>?_;refine qa (hK10 _ _ (cf A ?_));refine wsk fun K13 hK13=>wrl ?_;rcases tf (decide (l=[116,97,98]))with hb14 | hb14
    ·have hb14':=of_decide_eq_true hb14;refine sdo (v:=bV true) A (qe rfl rfl (fun w=>(zk (a:=l) (b:=[116,97,98]) Tryz.underlying9 w).trans (by rw[hb14]<;>rfl))) λa A=>?_;refine sda A λa A=>?_;refine qa (hK13 _ _ (ct A ?_));refine wsk fun K15 hK15=>wrl ?_;iterate 2 refine sda A λa A=>?_
     refine qa (hK15 _ _ (wp_ret (hret _ _ (en2 A rfl (qh rfl) (qh rfl) ?_))));exact⟨by unfold yv; rw[if_neg (of_decide_eq_false hb5),if_neg (of_decide_eq_false hb8),if_neg (of_decide_eq_false hb11),if_pos (of_decide_eq_true hb14)]; rfl,M.bel⟩
    ·have hb14':=of_decide_eq_false hb14;refine sdo (v:=bV false) A (qe rfl rfl (fun w=>(zk (a:=l) (b:=[116,97,98]) Tryz.underlying9 w).trans (by rw[hb14]<;>rfl))) λa A=>?_;refine sda A λa A=>?_;refine qa (hK13 _ _ (cf A ?_));refine wsk fun K16 hK16=>wsk fun K17 hK17=>wrl ?_;rcases tf (decide (l=[108,105,110,101,102,101,101,100]))with hb18 | hb18
     ·have hb18':=of_decide_eq_true hb18;refine sdo (v:=bV true) A (qe rfl rfl (fun w=>(zk (a:=l) (b:=[108,105,110,101,102,101,101,100]) Tryz.underlying9 w).trans (by rw[hb18]<;>rfl))) λa A=>?_;refine sda A λa A=>?_;refine qa (hK17 _ _ (ct A ?_));refine wp_skip (hK16 _ _ (ct A ?_));refine wsk fun K19 hK19=>wrl ?_;iterate 2 refine sda A λa A=>?_
      refine qa (hK19 _ _ (wp_ret (hret _ _ (en2 A rfl (qh rfl) (qh rfl) ?_))));exact⟨by unfold yv; rw[if_neg (of_decide_eq_false hb5),if_neg (of_decide_eq_false hb8),if_neg (of_decide_eq_false hb11),if_neg (of_decide_eq_false hb14),if_pos (of_decide_eq_true hb18)]; rfl,M.bel⟩
     ·have hb18':=of_decide_eq_false hb18;refine sdo (v:=bV false) A (qe rfl rfl (fun w=>(zk (a:=l) (b:=[108,105,110,101,102,101,101,100]) Tryz.underlying9 w).trans (by rw[hb18]<;>rfl))) λa A=>?_;refine sda A λa A=>?_;refine qa (hK17 _ _ (cf A ?_));refine wrl ?_;rcases tf (decide (l=[110,101,119,108,105,110,101]))with hb20 | hb20
      ·have hb20':=of_decide_eq_true hb20;refine sdo (v:=bV true) A (qe rfl rfl (fun w=>(zk (a:=l) (b:=[110,101,119,108,105,110,101]) Tryz.underlying9 w).trans (by rw[hb20]<;>rfl))) λa A=>?_;refine sda A λa A=>?_;refine qa (hK16 _ _ (ct A ?_));refine wsk fun K21 hK21=>wrl ?_;iterate 2 refine sda A λa A=>?_
       refine qa (hK21 _ _ (wp_ret (hret _ _ (en2 A rfl (qh rfl) (qh rfl) ?_))));exact⟨by unfold yv; rw[if_neg (of_decide_eq_false hb5),if_neg (of_decide_eq_false hb8),if_neg (of_decide_eq_false hb11),if_neg (of_decide_eq_false hb14),if_neg (of_decide_eq_false hb18),if_pos (of_decide_eq_true hb20)]; rfl,M.bel⟩
      ·have hb20':=of_decide_eq_false hb20;refine sdo (v:=bV false) A (qe rfl rfl (fun w=>(zk (a:=l) (b:=[110,101,119,108,105,110,101]) Tryz.underlying9 w).trans (by rw[hb20]<;>rfl))) λa A=>?_;refine sda A λa A=>?_;refine qa (hK16 _ _ (cf A ?_));refine wsk fun K22 hK22=>wrl ?_;rcases tf (decide (l=[118,116,97,98]))with hb23 | hb23
       ·have hb23':=of_decide_eq_true hb23;refine sdo (v:=bV true) A (qe rfl rfl (fun w=>(zk (a:=l) (b:=[118,116,97,98]) Tryz.underlying9 w).trans (by rw[hb23]<;>rfl))) λa A=>?_;refine sda A λa A=>?_;refine qa (hK22 _ _ (ct A ?_));refine wsk fun K24 hK24=>wrl ?_;iterate 2 refine sda A λa A=>?_
        refine qa (hK24 _ _ (wp_ret (hret _ _ (en2 A rfl (qh rfl) (qh rfl) ?_))));exact⟨by unfold yv; rw[if_neg (of_decide_eq_false hb5),if_neg (of_decide_eq_false hb8),if_neg (of_decide_eq_false hb11),if_neg (of_decide_eq_false hb14),if_neg (of_decide_eq_false hb18),if_neg (of_decide_eq_false hb20),if_pos (of_decide_eq_true hb23)]; rfl,M.bel⟩
       ·have hb23':=of_decide_eq_false hb23;refine sdo (v:=bV false) A (qe rfl rfl (fun w=>(zk (a:=l) (b:=[118,116,97,98]) Tryz.underlying9 w).trans (by rw[hb23]<;>rfl))) λa A=>?_;refine sda A λa A=>?_;refine qa (hK22 _ _ (cf A ?_));refine wsk fun K25 hK25=>wrl ?_;rcases tf (decide (l=[112,97,103,101]))with hb26 | hb26
        ·have hb26':=of_decide_eq_true hb26;refine sdo (v:=bV true) A (qe rfl rfl (fun w=>(zk (a:=l) (b:=[112,97,103,101]) Tryz.underlying9 w).trans (by rw[hb26]<;>rfl))) λa A=>?_;refine sda A λa A=>?_;refine qa (hK25 _ _ (ct A ?_));refine wsk fun K27 hK27=>wrl ?_;iterate 2 refine sda A λa A=>?_
         refine qa (hK27 _ _ (wp_ret (hret _ _ (en2 A rfl (qh rfl) (qh rfl) ?_))));exact⟨by unfold yv; rw[if_neg (of_decide_eq_false hb5),if_neg (of_decide_eq_false hb8),if_neg (of_decide_eq_false hb11),if_neg (of_decide_eq_false hb14),if_neg (of_decide_eq_false hb18),if_neg (of_decide_eq_false hb20),if_neg (of_decide_eq_false hb23),if_pos (of_decide_eq_true hb26)]; rfl,M.bel⟩
        ·have hb26':=of_decide_eq_false hb26;refine sdo (v:=bV false) A (qe rfl rfl (fun w=>(zk (a:=l) (b:=[112,97,103,101]) Tryz.underlying9 w).trans (by rw[hb26]<;>rfl))) λa A=>?_;refine sda A λa A=>?_;refine qa (hK25 _ _ (cf A ?_));refine wsk fun K28 hK28=>wrl ?_;rcases tf (decide (l=[114,101,116,117,114,110]))with hb29 | hb29
         ·have hb29':=of_decide_eq_true hb29;refine sdo (v:=bV true) A (qe rfl rfl (fun w=>(zk (a:=l) (b:=[114,101,116,117,114,110]) Tryz.underlying9 w).trans (by rw[hb29]<;>rfl))) λa A=>?_;refine sda A λa A=>?_;refine qa (hK28 _ _ (ct A ?_));refine wsk fun K30 hK30=>wrl ?_;iterate 2 refine sda A λa A=>?_
          refine qa (hK30 _ _ (wp_ret (hret _ _ (en2 A rfl (qh rfl) (qh rfl) ?_))));exact⟨by unfold yv; rw[if_neg (of_decide_eq_false hb5),if_neg (of_decide_eq_false hb8),if_neg (of_decide_eq_false hb11),if_neg (of_decide_eq_false hb14),if_neg (of_decide_eq_false hb18),if_neg (of_decide_eq_false hb20),if_neg (of_decide_eq_false hb23),if_neg (of_decide_eq_false hb26),if_pos (of_decide_eq_true hb29)]; rfl,M.bel⟩
         ·have hb29':=of_decide_eq_false hb29;refine sdo (v:=bV false) A (qe rfl rfl (fun w=>(zk (a:=l) (b:=[114,101,116,117,114,110]) Tryz.underlying9 w).trans (by rw[hb29]<;>rfl))) λa A=>?_;refine sda A λa A=>?_;refine qa (hK28 _ _ (cf A ?_));refine wsk fun K31 hK31=>wrl ?_;rcases tf (decide (l=[101,115,99]))with hb32 | hb32
          ·have hb32':=of_decide_eq_true hb32;refine sdo (v:=bV true) A (qe rfl rfl (fun w=>(zk (a:=l) (b:=[101,115,99]) Tryz.underlying9 w).trans (by rw[hb32]<;>rfl))) λa A=>?_;refine sda A λa A=>?_;refine qa (hK31 _ _ (ct A ?_));refine wsk fun K33 hK33=>wrl ?_;iterate 2 refine sda A λa A=>?_
           refine qa (hK33 _ _ (wp_ret (hret _ _ (en2 A rfl (qh rfl) (qh rfl) ?_))));exact⟨by unfold yv; rw[if_neg (of_decide_eq_false hb5),if_neg (of_decide_eq_false hb8),if_neg (of_decide_eq_false hb11),if_neg (of_decide_eq_false hb14),if_neg (of_decide_eq_false hb18),if_neg (of_decide_eq_false hb20),if_neg (of_decide_eq_false hb23),if_neg (of_decide_eq_false hb26),if_neg (of_decide_eq_false hb29),if_pos (of_decide_eq_true hb32)]; rfl,M.bel⟩
          ·have hb32':=of_decide_eq_false hb32;refine sdo (v:=bV false) A (qe rfl rfl (fun w=>(zk (a:=l) (b:=[101,115,99]) Tryz.underlying9 w).trans (by rw[hb32]<;>rfl))) λa A=>?_;refine sda A λa A=>?_;refine qa (hK31 _ _ (cf A ?_));refine wsk fun K34 hK34=>wrl ?_;rcases tf (decide (l=[115,112,97,99,101]))with hb35 | hb35
           ·have hb35':=of_decide_eq_true hb35;refine sdo (v:=bV true) A (qe rfl rfl (fun w=>(zk (a:=l) (b:=[115,112,97,99,101]) Tryz.underlying9 w).trans (by rw[hb35]<;>rfl))) λa A=>?_;refine sda A λa A=>?_;refine qa (hK34 _ _ (ct A ?_));refine wsk fun K36 hK36=>wrl ?_;iterate 2 refine sda A λa A=>?_
            refine qa (hK36 _ _ (wp_ret (hret _ _ (en2 A rfl (qh rfl) (qh rfl) ?_))));exact⟨by unfold yv; rw[if_neg (of_decide_eq_false hb5),if_neg (of_decide_eq_false hb8),if_neg (of_decide_eq_false hb11),if_neg (of_decide_eq_false hb14),if_neg (of_decide_eq_false hb18),if_neg (of_decide_eq_false hb20),if_neg (of_decide_eq_false hb23),if_neg (of_decide_eq_false hb26),if_neg (of_decide_eq_false hb29),if_neg (of_decide_eq_false hb32),if_pos (of_decide_eq_true hb35)]; rfl,M.bel⟩
           ·have hb35':=of_decide_eq_false hb35;refine sdo (v:=bV false) A (qe rfl rfl (fun w=>(zk (a:=l) (b:=[115,112,97,99,101]) Tryz.underlying9 w).trans (by rw[hb35]<;>rfl))) λa A=>?_;refine sda A λa A=>?_;refine qa (hK34 _ _ (cf A ?_));refine wsk fun K37 hK37=>wrl ?_;rcases tf (decide (l=[100,101,108,101,116,101]))with hb38 | hb38
            ·have hb38':=of_decide_eq_true hb38;refine sdo (v:=bV true) A (qe rfl rfl (fun w=>(zk (a:=l) (b:=[100,101,108,101,116,101]) Tryz.underlying9 w).trans (by rw[hb38]<;>rfl))) λa A=>?_;refine sda A λa A=>?_;refine qa (hK37 _ _ (ct A ?_));refine wsk fun K39 hK39=>wrl ?_;iterate 2 refine sda A λa A=>?_
             refine qa (hK39 _ _ (wp_ret (hret _ _ (en2 A rfl (qh rfl) (qh rfl) ?_))));exact⟨by unfold yv; rw[if_neg (of_decide_eq_false hb5),if_neg (of_decide_eq_false hb8),if_neg (of_decide_eq_false hb11),if_neg (of_decide_eq_false hb14),if_neg (of_decide_eq_false hb18),if_neg (of_decide_eq_false hb20),if_neg (of_decide_eq_false hb23),if_neg (of_decide_eq_false hb26),if_neg (of_decide_eq_false hb29),if_neg (of_decide_eq_false hb32),if_neg (of_decide_eq_false hb35),if_pos (of_decide_eq_true hb38)]; rfl,M.bel⟩
            ·have hb38':=of_decide_eq_false hb38;refine sdo (v:=bV false) A (qe rfl rfl (fun w=>(zk (a:=l) (b:=[100,101,108,101,116,101]) Tryz.underlying9 w).trans (by rw[hb38]<;>rfl))) λa A=>?_;refine sda A λa A=>?_;refine qa (hK37 _ _ (cf A ?_));refine wp_skip (hK2 _ _ (wsk fun K40 hK40=>wrl ?_));iterate 2 refine sda A λa A=>?_
             refine qa (hK40 _ _ (wp_ret (hret _ _ (en2 A rfl (qh rfl) (qh rfl) ?_))));exact⟨by unfold yv; rw[if_neg (of_decide_eq_false hb5),if_neg (of_decide_eq_false hb8),if_neg (of_decide_eq_false hb11),if_neg (of_decide_eq_false hb14),if_neg (of_decide_eq_false hb18),if_neg (of_decide_eq_false hb20),if_neg (of_decide_eq_false hb23),if_neg (of_decide_eq_false hb26),if_neg (of_decide_eq_false hb29),if_neg (of_decide_eq_false hb32),if_neg (of_decide_eq_false hb35),if_neg (of_decide_eq_false hb38)]; rfl,M.bel⟩
theorem zqj{w0 w:World}{g p:Nat}{lg:Bool}{L:List UInt8}{T:List Ck}(hT:Tb w0)(hp:p≤L.length)(hl:L.length≤1000000000)(hd0:qkb (L.drop p)=true)(hM0:Mg w0 w (.obj g (rC L p lg)::T)):Calls Tryz.prog 55 #[pA g 0] w fun e w'=>e=.returned (bV true)∧Mg w0 w' (.obj g (rC L (p+1) lg)::T):=by
 have hd:decide ((L.drop p).take (qbd ((L.drop p).length+1) (L.drop p))=[46])=true:=hd0;have hpf:=zmg (of_decide_eq_true hd);have M:Mg w0 w (.obj g (rC L p lg)::T):=hM0;refine qn (l:=[(0,pA g 0)]) Tryz.func55 rfl Tryz.ntmps55 rfl rfl ?_;intro Q hret hnorm hP a A;refine wsk fun K1 hK1=>wrl (sda A λa A=>?_);refine qa (hK1 _ _ (wsk fun K2 hK2=>wrl (sdm A λa A=>?_)));refine sct A (ef rfl rfl) (xm (p:=p) (L:=L) (T:=(T)) (by omega) M) ?_;rintro _ w4 ⟨rfl,hM3⟩;replace M:Mg w0 w4 (.obj g (rC L p lg)::T):=hM3;refine⟨_,rfl,?_⟩;intro a A;refine gcl A M (ef rfl rfl) (qka (l:=L.drop p) (hT.below M.bel) (by rw[List.length_drop]; omega)) fun w6 hb5 M a A=>?_;refine sdo (v:=bV true) A (qe rfl rfl (fun w=>(zk (a:=(L.drop p).take (qbd ((L.drop p).length+1) (L.drop p))) (b:=[46]) Tryz.underlying9 w).trans (by rw[hd]<;>rfl))) λa A=>?_;iterate 2 refine sdm A λa A=>?_
 have htl9:1≤(L.drop p).length:=(List.isPrefixOf_iff_prefix.1 hpf).length_le;rw[List.length_drop]at htl9;refine sct A (ef rfl rfl) (vq (p:=p) (L:=L) (T:=(T)) (by omega) (by omega) hpf M) ?_;rintro _ w10 ⟨rfl,hM8⟩;replace M:Mg w0 w10 (.obj g (rC L (p+1) lg)::T):=hM8;refine⟨_,rfl,?_⟩;intro a A;refine sdk (v:=bV true) A λa A=>?_;refine sda A λa A=>?_;refine qa (hK2 _ _ (wr1 hret A ?_));exact⟨rfl,M⟩
theorem zra{w0 w:World}{g p:Nat}{lg:Bool}{L:List UInt8}{T:List Ck}(hT:Tb w0)(hp:p≤L.length)(hl:L.length≤1000000000)(hd0:qkb (L.drop p)=false)(hM0:Mg w0 w (.obj g (rC L p lg)::T)):Calls Tryz.prog 55 #[pA g 0] w fun e w'=>e=.returned (bV false)∧Mg w0 w' (.obj g (rC L p lg)::T):=by
 have hd:decide ((L.drop p).take (qbd ((L.drop p).length+1) (L.drop p))=[46])=false:=hd0
 
 have M:Mg w0 w (.obj g (rC L p lg)::T):=hM0;refine qn (l:=[(0,pA g 0)]) Tryz.func55 rfl Tryz.ntmps55 rfl rfl ?_;intro Q hret hnorm hP a A;refine wsk fun K1 hK1=>wrl (sda A λa A=>?_);refine qa (hK1 _ _ (wsk fun K2 hK2=>wrl (sdm A λa A=>?_)));refine sct A (ef rfl rfl) (xm (p:=p) (L:=L) (T:=(T)) (by omega) M) ?_;rintro _ w4 ⟨rfl,hM3⟩;replace M:Mg w0 w4 (.obj g (rC L p lg)::T):=hM3;refine⟨_,rfl,?_⟩;intro a A;refine gcl A M (ef rfl rfl) (qka (l:=L.drop p) (hT.below M.bel) (by rw[List.length_drop]; omega)) fun w6 hb5 M a A=>?_;refine sdo (v:=bV false) A (qe rfl rfl (fun w=>(zk (a:=(L.drop p).take (qbd ((L.drop p).length+1) (L.drop p))) (b:=[46]) Tryz.underlying9 w).trans (by rw[hd]<;>rfl))) λa A=>?_;refine sdm A λa A=>?_;iterate 2 refine qg A rfl rfl rfl λa A=>?_
 refine sdk (v:=bV false) A λa A=>?_;refine sda A λa A=>?_;refine qa (hK2 _ _ (wr1 hret A ?_));exact⟨rfl,M⟩
theorem qhg{P:Program}{Q:Exit→Act→World→Prop}{a:Act}{w:World}{c rest:Code}(l:Nat)(hf:findLabel c l=some rest)(h:c.wp P (Exit.jump l (fun a w=>rest.wp P (Exit.noGoto Q) a w) Q) a w):(Code.scope c).wp P Q a w:=
  wp_scope_jumps l _ (fun _ _=>0) hf h fun a w hJ=>wp_mono hJ fun e a w hq=>by
    cases e with
    | goto l' => exact hq.elim
    | normal => exact hq
    | exit id => exact hq
    | ret => exact hq
    | panic ch => exact hq
    | outgrown => exact hq
end Go.Proofs.YtjhkejihhpnooaaGreatDoor.G
namespace Go.Proofs
open Go.Shelf
def Tryz.lays153_ren: Go.Shelf.Ren:=⟨fun | 153=>51 | 152=>71 | 226=>72 | 227=>73 | 228=>74 | 137=>105 | 119=>67 | 224=>106 | 225=>107 | 217=>133 | 266=>152 | n=>n,fun | 9=>9 | 3=>3 | 4=>4 | 5=>5 | 21=>21 | 117=>103 | 116=>102 | 0=>0 | 46=>71 | 124=>133 | n=>n,fun | n=>n⟩
theorem Tryz.lays153: Go.Proofs.Lays.n153 Tryz.prog Tryz.lays153_ren:={
  mixed:=by kernel_rfl
  f119:=Tryz.func67.trans (congrArg some (by kernel_rfl))
  f137:=Tryz.func105.trans (congrArg some (by kernel_rfl))
  f152:=Tryz.func71.trans (congrArg some (by kernel_rfl))
  f153:=Tryz.func51.trans (congrArg some (by kernel_rfl))
  f217:=Tryz.func133.trans (congrArg some (by kernel_rfl))
  f224:=Tryz.func106.trans (congrArg some (by kernel_rfl))
  f225:=Tryz.func107.trans (congrArg some (by kernel_rfl))
  f226:=Tryz.func72.trans (congrArg some (by kernel_rfl))
  f227:=Tryz.func73.trans (congrArg some (by kernel_rfl))
  f228:=Tryz.func74.trans (congrArg some (by kernel_rfl))
  f266:=Tryz.func152.trans (congrArg some (by kernel_rfl))
  t0:=Tryz.underlying0
  a0:=Tryz.isAgg0
  z0:=Tryz.sizeOf0
  v0:=Tryz.zeroValue0
  t3:=Tryz.underlying3
  a3:=Tryz.isAgg3
  z3:=Tryz.sizeOf3
  v3:=Tryz.zeroValue3
  t4:=Tryz.underlying4
  a4:=Tryz.isAgg4
  z4:=Tryz.sizeOf4
  v4:=Tryz.zeroValue4
  t5:=Tryz.underlying5
  a5:=Tryz.isAgg5
  z5:=Tryz.sizeOf5
  v5:=Tryz.zeroValue5
  t9:=Tryz.underlying9
  a9:=Tryz.isAgg9
  z9:=Tryz.sizeOf9
  v9:=Tryz.zeroValue9
  t21:=Tryz.underlying21
  a21:=Tryz.isAgg21
  z21:=Tryz.sizeOf21
  v21:=Tryz.zeroValue21
  t46:=Tryz.underlying71
  a46:=Tryz.isAgg71
  z46:=Tryz.sizeOf71
  v46:=Tryz.zeroValue71
  t116:=Tryz.underlying102
  a116:=Tryz.isAgg102
  z116:=Tryz.sizeOf102
  t117:=Tryz.underlying103
  a117:=Tryz.isAgg103
  z117:=Tryz.sizeOf103
  v117:=Tryz.zeroValue103
  t124:=Tryz.underlying133
  a124:=Tryz.isAgg133
  z124:=Tryz.sizeOf133
  v124:=Tryz.zeroValue133 }
end Go.Proofs
namespace Go.Proofs.YtjhkejihhpnooaaGreatDoor.C
open Go.RowKit Go.Shelf Go.Lib

def ln7(r:Int):Bool:=decide (r=10∨r=13∨r=133∨r=8232)
def lnN: Nat→List UInt8→Nat
  | 0, _ => 0
  | f + 1, l => if l.isEmpty = true then 0 else if ln7 (((Lib.decodeL l).1 : Nat) : Int) = true then 0 else (Lib.decodeL l).2 + lnN f (l.drop (Lib.decodeL l).2)
def LnI(s:ByteArray)(pos:Nat):Prop:=∃f,s.size-pos≤f∧lnN s.size s.data.toList=pos+lnN f (s.data.toList.drop pos)
theorem LnI.zero(s:ByteArray):LnI s 0:=⟨s.size,by omega,by simp⟩
theorem qnd{s:ByteArray}{pos:Nat}(hp:pos<s.size):(s.data.toList.drop pos).isEmpty=false:=by
  rw[List.isEmpty_eq_false_iff];intro h;have:=List.drop_eq_nil_iff.1 h;rw[←Lib.size_eq]at this;omega
theorem LnI.hit{s:ByteArray}{pos:Nat}(h:LnI s pos)(hp:pos<s.size)(hc:ln7 (((Utf8.decode s pos).1:Nat):Int)=true):lnN s.size s.data.toList=pos:=by
  obtain⟨f,hf,e⟩:=h;obtain⟨k,rfl⟩:∃k,f=k+1:=⟨f-1,by omega⟩;rw[e,lnN,if_neg (by rw[qnd hp]; decide),Lib.decodeL_drop,if_pos hc,Nat.add_zero]
theorem LnI.step{s:ByteArray}{pos:Nat}(h:LnI s pos)(hp:pos<s.size)(hc:ln7 (((Utf8.decode s pos).1:Nat):Int)=false):LnI s (pos+(Utf8.decode s pos).2):=by
  obtain⟨f,hf,e⟩:=h;obtain⟨k,rfl⟩:∃k,f=k+1:=⟨f-1,by omega⟩;have hw:=Lib.decodeL_width (s.data.toList.drop pos);rw[Lib.decodeL_drop]at hw;refine⟨k,by omega,?_⟩;rw[e,lnN,if_neg (by rw[qnd hp]; decide),Lib.decodeL_drop,if_neg (by rw[hc]; decide),List.drop_drop];omega
theorem jef(f:Nat):lnN f []=0:=by cases f<;>rfl
theorem LnI.over{s:ByteArray}{pos:Nat}(h:LnI s pos)(hp:¬pos<s.size)(hq:pos≤s.size):lnN s.size s.data.toList=s.size:=by
  obtain⟨f,hf,e⟩:=h;rw[e,List.drop_of_length_le (by rw[←Lib.size_eq]; omega),jef];omega
theorem zvj(s:ByteArray)(pos:Nat)(hp:pos<s.size):OkR (((Utf8.decode s pos).1:Nat):Int):=by
  have:=G.qof (s.data.toList.drop pos);rw[Lib.decodeL_drop]at this;unfold OkR;omega
section
variable {P:Program} {ρ:Ren}
set_option maxRecDepth 1000000 in
theorem jkf(L:Lays.n227 P ρ)(hv116:∀w,(zeroValue (ρ.t 116)).run P w=.ok (.agg (Array.replicate 256 (.bool false))) w)(hi116:(P.info? (ρ.t 116)).map (·.size)=some 256)(chars:ByteArray)(hl:chars.data.toList=[10,13,194,133,226,128,168])(w:World):
    Calls P (ρ.f 227) #[.string chars] w fun e w'=>e=.returned (.tuple #[.agg (Lib.setCells [10,13]),.bool false])∧w'=w.alloc (.cells (Lib.setCells [10,13]) (ρ.t 116)):=by
  have hz:chars.size=7:=by rw[Lib.size_eq,hl]; rfl
  have HA:Aside (chars.data.toList=[10,13,194,133,226,128,168]):=hl;clear hl;have t3:=L.t3; have a3:=L.a3; have z3:=L.z3; have v3:=L.v3;have t4:=L.t4; have a4:=L.a4; have z4:=L.z4; have v4:=L.v4;have t5:=L.t5; have a5:=L.a5; have z5:=L.z5; have v5:=L.v5;have t9:=L.t9; have a9:=L.a9; have z9:=L.z9; have v9:=L.v9;have t116:=L.t116
  go_enter L.f227,Body.n227_ntmps ρ
  go_wp2
  rw[←Lib.setCells_nil]
  go_loopg [4] 2 (fun g s4 wx=>∃i:Nat,i+g=2∧s4=.int .i64 i∧wx=w.alloc (.cells (Lib.setCells (([10,13]:List UInt8).take i)) (ρ.t 116)))
  case atStart=>exact⟨0,by omega,rfl,rfl⟩
  case round=>
    obtain⟨i,hig,rfl,rfl⟩:=hrel;have hi:i<chars.size:=(by omega);have hiz:(i:Int)<(chars.size:Int):=(by omega);obtain⟨x,hx⟩:∃x:UInt8,chars[i]'hi=x:=⟨_,rfl⟩;have hxl:chars.data.toList[i]?=some x:=(by rw[←hx]; exact Lib.data_getElem? chars i hi);cases gk with
    | zero =>
      obtain rfl:i=2:=(by omega);obtain rfl:x=194:=(by rw[HA.out]at hxl; exact(Option.some.inj hxl).symm);clear hxl;have hx128:((128:Int)≤(((194:UInt8).toNat:Nat):Int)):=(by decide);rw[show([10,13]:List UInt8).take 2=[10,13]from rfl];have hld:=run_loadVar_new (P:=P) w (ρ.t 116) (Lib.setCells [10,13]) 256 (ρ.t 4) L.t116 (by rw[Lib.setCells_size]; exact hi116);have hsz:=Lib.setCells_size [10,13];have hlc:=run_loadCellsFrom_new (P:=P) w (ρ.t 116) (Lib.setCells [10,13]) 256 hsz;have hsc:=run_storeCells_new (P:=P) w (ρ.t 116) (Lib.setCells [10,13]) (Lib.setCells [10,13]) (by rw[hsz]; exact hi116) rfl (Lib.setCells_one _);obtain⟨A,hA⟩:∃A,Lib.setCells [10,13]=A:=⟨_,rfl⟩;rw[hA]at hld hsz hlc hsc ⊢
      go_wp2
      simp only[L.a116,L.z116,Result.andThen,↓reduceIte,hlc];rw[Oper.upon_value]
      go_wp2
      simp only[L.z116,Result.andThen,↓reduceIte,hsc];rw[Oper.upon_skip]
      go_wp2
      (try simp only[Exit.inBlock,Exit.then])
      refine bodyPost_ret (v:=.tuple #[.agg A,.bool false]) ?_ rfl ⟨by rw[hA],by rw[hA]⟩;rw[results_cell_tmp rfl];simp[asAddr,Result.andThen,hld]
    | succ g =>
      have hx128:¬((128:Int)≤(x.toNat:Int)):=by
        rw[HA.out]at hxl
        match i,hxl with
        | 0, h => obtain rfl := Option.some.inj h; decide
        | 1, h => obtain rfl := Option.some.inj h; decide
        | n + 2, h => omega
      have hx256:(x.toNat:Int)<256:=(by omega);have hcell:=Lib.setCells_at (([10,13]:List UInt8).take i) x;have Hx:Aside (([10,13]:List UInt8)[i]?=some x):=by
        rw[HA.out]at hxl
        match i,hxl with
        | 0, h => exact h
        | 1, h => exact h
        | n + 2, h => omega
      clear hxl
      go_wp2
      go_roundg g
      case measure=>omega
      case rel=>exact⟨i+1,by omega,by first | rfl | simp,by rw[List.take_add_one,Hx.out]; simp only[Option.toList]; rw[Lib.setCells_snoc]⟩
set_option maxRecDepth 1000000 in
theorem zaa(L:Lays.n153 P ρ)(hv116:∀w,(zeroValue (ρ.t 116)).run P w=.ok (.agg (Array.replicate 256 (.bool false))) w)(hi116:(P.info? (ρ.t 116)).map (·.size)=some 256)(s chars:ByteArray)(hl:chars.data.toList=[10,13,194,133,226,128,168])(hir:∀(r:Int) (w:World),OkR r→Calls P (ρ.f 152) #[.string chars,.int .i32 r] w fun e w'=>∃v:Int,e=.returned (.int .i64 v)∧decide (0≤v)=ln7 r∧Below w.heap.size w w')(w:World)(h8:s.size≤8)(hs:s.size<4294967281):
    Calls P (ρ.f 153) #[.string s,.string chars] w fun e w'=>(∃v:Int,e=.returned (.int .i64 v)∧(v=((lnN s.size s.data.toList:Nat):Int)∧lnN s.size s.data.toList<s.size∨v=-1∧lnN s.size s.data.toList=s.size))∧Below w.heap.size w w':=by
  have hz:chars.size=7:=by rw[Lib.size_eq,hl]; rfl
  have hemp:chars.toList.isEmpty=false:=by rw[Lib.toList_data,hl]; rfl
  have hn1:((chars.size:Int)==1)=false:=beq_eq_false_iff_ne.2 (by omega);have h8z:decide ((8:Int)<(s.size:Int))=false:=decide_eq_false (by omega);have HR:Aside (∀(r:Int) (w:World),OkR r→Calls P (ρ.f 152) #[.string chars,.int .i32 r] w fun e w'=>∃v:Int,e=.returned (.int .i64 v)∧decide (0≤v)=ln7 r∧Below w.heap.size w w'):=hir;clear hir hl;have t3:=L.t3; have a3:=L.a3; have z3:=L.z3; have v3:=L.v3;have t4:=L.t4; have a4:=L.a4; have z4:=L.z4; have v4:=L.v4;have t5:=L.t5; have a5:=L.a5; have z5:=L.z5; have v5:=L.v5;have t9:=L.t9; have a9:=L.a9; have z9:=L.z9; have v9:=L.v9;have t21:=L.t21; have a21:=L.a21; have z21:=L.z21; have v21:=L.v21;have t116:=L.t116;have e152:∀args w,(callFunc (ρ.f 152) args).run P w=.ok (.enter (ρ.f 152) args) w:=enters_of L.f152 (by kernel_rfl) rfl;have e226:∀args w,(callFunc (ρ.f 226) args).run P w=.ok (.enter (ρ.f 226) args) w:=enters_of L.f226 (by kernel_rfl) rfl;have e227:∀args w,(callFunc (ρ.f 227) args).run P w=.ok (.enter (ρ.f 227) args) w:=enters_of L.f227 (by kernel_rfl) rfl
  go_enter L.f153,Body.n153_ntmps ρ
  go_wp2_with (first
    | (go_at_fn (ρ.f 226); refine (Any.strings_shouldUseASCIISet { L with } _ _).mono ?_; rintro e w' ⟨rfl, hw⟩; rw [hw, h8z])
    | (go_at_fn (ρ.f 227); fail))
  go_loopw [9,10] (fun _ _ wr=>∃(pos:Nat),wr.heap[w.heap.size]?=some (.stringIter s pos)∧Below w.heap.size w wr∧LnI s pos∧pos≤s.size) (fun _ _ wr=>s.size-wr.iterPos w.heap.size)
  case atStart=>
    refine⟨0,?_,?_,LnI.zero s,Nat.zero_le _⟩
    · simpa using World.iter_heap w s 0
    · exact(Below.refl _ w).alloc (Nat.le_refl _) _
  case round=>
    obtain⟨pos,hit,hbw,hno,hq⟩:=hrel;have HN:Aside (LnI s pos):=hno;clear hno;have hsz:w.heap.size<wr.heap.size:=(Array.getElem?_eq_some_iff.1 hit).1;by_cases hp:pos<s.size
    · have hnx:∀ty,(Instr.next (.pointer (some ⟨w.heap.size,0,none⟩)) true ty).run P wr=_:=fun ty=>Lib.run_next_any_at wr w.heap.size s pos ty hit hp;have hit2:=Lib.iterAt_heap wr w.heap.size s pos (pos+(Utf8.decode s pos).2) hit;have hbw2:=Lib.below_iterAt hbw (k:=w.heap.size) (by omega) s (pos+(Utf8.decode s pos).2);have HO:Aside (OkR (((Utf8.decode s pos).1:Nat):Int)):=zvj s pos hp;have HH:Aside (ln7 (((Utf8.decode s pos).1:Nat):Int)=true→lnN s.size s.data.toList=pos):=fun h=>HN.out.hit hp h;have HS:Aside (ln7 (((Utf8.decode s pos).1:Nat):Int)=false→LnI s (pos+(Utf8.decode s pos).2)):=fun h=>HN.out.step hp h;have hle:pos+(Utf8.decode s pos).2≤s.size:=by
        have:=Lib.decodeL_le (s.data.toList.drop pos) (by have:=qnd hp; intro h; rw[h]at this; cases this);rw[Lib.decodeL_drop,List.length_drop,←Lib.size_eq]at this;omega
      have hwd:=Lib.decodeL_width (s.data.toList.drop pos);rw[Lib.decodeL_drop]at hwd;generalize Utf8.decode s pos=d at hnx hit2 hbw2 HO HH HS hle hwd;obtain⟨c,wd⟩:=d;dsimp only at hnx hit2 hbw2 HO HH HS hle hwd;cases hc:ln7 ((c:Nat):Int)
      · go_wp2_with (go_at_fn (ρ.f 152); refine(HR.out _ _ HO.out).mono ?_; rintro e w' ⟨v,rfl,hv,hbv⟩; rw[hc]at hv; have hv0:¬((0:Int)≤v):=of_decide_eq_false hv)
        go_roundw
        case rel=>exact⟨pos+wd,heap_below hit2 hbv,hbw2.trans (hbv.mono hbw2.size),HS.out hc,hle⟩
        case measure=>
          simp only[World.iterPos,heap_below hit2 hbv,hit];omega
      · go_wp2_with (go_at_fn (ρ.f 152); refine(HR.out _ _ HO.out).mono ?_; rintro e w' ⟨v,rfl,hv,hbv⟩; rw[hc]at hv; have hv0:(0:Int)≤v:=of_decide_eq_true hv)
        go_ret
        exact⟨⟨_,rfl,.inl ⟨by rw[HH.out hc],by rw[HH.out hc]; exact hp⟩⟩,hbw2.trans (hbv.mono hbw2.size)⟩
    · have hnx:∀ty,(Instr.next (.pointer (some ⟨w.heap.size,0,none⟩)) true ty).run P wr=_:=fun ty=>Lib.run_next_end_at wr w.heap.size s pos ty hit hp
      go_wp2
      go_ret
      exact⟨⟨_,rfl,.inr ⟨rfl,HN.out.over hp hq⟩⟩,hbw⟩
set_option maxRecDepth 1000000 in
theorem zgh(L:Lays.n153 P ρ)(hv116:∀w,(zeroValue (ρ.t 116)).run P w=.ok (.agg (Array.replicate 256 (.bool false))) w)(hi116:(P.info? (ρ.t 116)).map (·.size)=some 256)(s chars:ByteArray)(hl:chars.data.toList=[10,13,194,133,226,128,168])(hir:∀(r:Int) (w:World),OkR r→Calls P (ρ.f 152) #[.string chars,.int .i32 r] w fun e w'=>∃v:Int,e=.returned (.int .i64 v)∧decide (0≤v)=ln7 r∧Below w.heap.size w w')(w:World)(h8:8<s.size)(hs:s.size<4294967281):
    Calls P (ρ.f 153) #[.string s,.string chars] w fun e w'=>(∃v:Int,e=.returned (.int .i64 v)∧(v=((lnN s.size s.data.toList:Nat):Int)∧lnN s.size s.data.toList<s.size∨v=-1∧lnN s.size s.data.toList=s.size))∧Below w.heap.size w w':=by
  have hM:=jkf { L with } hv116 hi116 chars hl w;have hsc:(storeCells ⟨w.heap.size+1,0,none⟩ (Lib.setCells [10,13]).toList 0).run P ((w.alloc (.cells (Lib.setCells [10,13]) (ρ.t 116))).alloc (.cells (Array.replicate 256 (.bool false)) (ρ.t 116)))=.ok () ((w.alloc (.cells (Lib.setCells [10,13]) (ρ.t 116))).alloc (.cells (Lib.setCells [10,13]) (ρ.t 116))):=by
    have:=run_storeCells_new (P:=P) (w.alloc (.cells (Lib.setCells [10,13]) (ρ.t 116))) (ρ.t 116) (Array.replicate 256 (.bool false)) (Lib.setCells [10,13]) (by rw[Lib.setCells_size]; exact hi116) (by rw[Lib.setCells_size,Array.size_replicate]) (Lib.setCells_one _);simpa using this
  obtain⟨A,hA⟩:∃A,Lib.setCells [10,13]=A:=⟨_,rfl⟩;have hsz:A.size=256:=by rw[←hA]; exact Lib.setCells_size _
  rw[hA]at hM hsc;clear hA;have hz:chars.size=7:=by rw[Lib.size_eq,hl]; rfl
  have hemp:chars.toList.isEmpty=false:=by rw[Lib.toList_data,hl]; rfl
  have hn1:((chars.size:Int)==1)=false:=beq_eq_false_iff_ne.2 (by omega);have h8z:decide ((8:Int)<(s.size:Int))=true:=decide_eq_true (by omega);have HR:Aside (∀(r:Int) (w:World),OkR r→Calls P (ρ.f 152) #[.string chars,.int .i32 r] w fun e w'=>∃v:Int,e=.returned (.int .i64 v)∧decide (0≤v)=ln7 r∧Below w.heap.size w w'):=hir;clear hir hl;have t3:=L.t3; have a3:=L.a3; have z3:=L.z3; have v3:=L.v3;have t4:=L.t4; have a4:=L.a4; have z4:=L.z4; have v4:=L.v4;have t5:=L.t5; have a5:=L.a5; have z5:=L.z5; have v5:=L.v5;have t9:=L.t9; have a9:=L.a9; have z9:=L.z9; have v9:=L.v9;have t21:=L.t21; have a21:=L.a21; have z21:=L.z21; have v21:=L.v21;have t116:=L.t116;have e152:∀args w,(callFunc (ρ.f 152) args).run P w=.ok (.enter (ρ.f 152) args) w:=enters_of L.f152 (by kernel_rfl) rfl;have e226:∀args w,(callFunc (ρ.f 226) args).run P w=.ok (.enter (ρ.f 226) args) w:=enters_of L.f226 (by kernel_rfl) rfl;have e227:∀args w,(callFunc (ρ.f 227) args).run P w=.ok (.enter (ρ.f 227) args) w:=enters_of L.f227 (by kernel_rfl) rfl
  go_enter L.f153,Body.n153_ntmps ρ
  go_wp2_with (first
    | (go_at_fn (ρ.f 226); refine (Any.strings_shouldUseASCIISet { L with } _ _).mono ?_; rintro e w' ⟨rfl, hw⟩; rw [hw, h8z])
    | (go_at_fn (ρ.f 227); refine hM.mono ?_; rintro e w' ⟨rfl, hw⟩; rw [hw]))
  simp only[L.z116,Result.andThen,↓reduceIte,hsc];rw[Oper.upon_skip]
  go_wp2
  clear hM hsc
  go_loopw [9,10] (fun _ _ wr=>∃(pos:Nat),wr.heap[(w.heap.size+1+1)]?=some (.stringIter s pos)∧Below w.heap.size w wr∧LnI s pos∧pos≤s.size) (fun _ _ wr=>s.size-wr.iterPos (w.heap.size+1+1))
  case atStart=>
    refine⟨0,?_,?_,LnI.zero s,Nat.zero_le _⟩
    · rw[show w.heap.size+1+1=((w.alloc (.cells A (ρ.t 116))).alloc (.cells A (ρ.t 116))).heap.size from by rw[World.alloc,World.alloc,Array.size_push,Array.size_push]];exact World.iter_heap _ s 0
    · exact(((Below.refl _ w).alloc (Nat.le_refl _) _).alloc (by rw[World.alloc,Array.size_push]; omega) _).alloc (by rw[World.alloc,World.alloc,Array.size_push,Array.size_push]; omega) _
  case round=>
    obtain⟨pos,hit,hbw,hno,hq⟩:=hrel;have HN:Aside (LnI s pos):=hno;clear hno;have hsz:(w.heap.size+1+1)<wr.heap.size:=(Array.getElem?_eq_some_iff.1 hit).1;by_cases hp:pos<s.size
    · have hnx:∀ty,(Instr.next (.pointer (some ⟨(w.heap.size+1+1),0,none⟩)) true ty).run P wr=_:=fun ty=>Lib.run_next_any_at wr (w.heap.size+1+1) s pos ty hit hp;have hit2:=Lib.iterAt_heap wr (w.heap.size+1+1) s pos (pos+(Utf8.decode s pos).2) hit;have hbw2:=Lib.below_iterAt hbw (k:=(w.heap.size+1+1)) (by omega) s (pos+(Utf8.decode s pos).2);have HO:Aside (OkR (((Utf8.decode s pos).1:Nat):Int)):=zvj s pos hp;have HH:Aside (ln7 (((Utf8.decode s pos).1:Nat):Int)=true→lnN s.size s.data.toList=pos):=fun h=>HN.out.hit hp h;have HS:Aside (ln7 (((Utf8.decode s pos).1:Nat):Int)=false→LnI s (pos+(Utf8.decode s pos).2)):=fun h=>HN.out.step hp h;have hle:pos+(Utf8.decode s pos).2≤s.size:=by
        have:=Lib.decodeL_le (s.data.toList.drop pos) (by have:=qnd hp; intro h; rw[h]at this; cases this);rw[Lib.decodeL_drop,List.length_drop,←Lib.size_eq]at this;omega
      have hwd:=Lib.decodeL_width (s.data.toList.drop pos);rw[Lib.decodeL_drop]at hwd;generalize Utf8.decode s pos=d at hnx hit2 hbw2 HO HH HS hle hwd;obtain⟨c,wd⟩:=d;dsimp only at hnx hit2 hbw2 HO HH HS hle hwd;cases hc:ln7 ((c:Nat):Int)
      · go_wp2_with (go_at_fn (ρ.f 152); refine(HR.out _ _ HO.out).mono ?_; rintro e w' ⟨v,rfl,hv,hbv⟩; rw[hc]at hv; have hv0:¬((0:Int)≤v):=of_decide_eq_false hv)
        go_roundw
        case rel=>exact⟨pos+wd,heap_below hit2 hbv,hbw2.trans (hbv.mono hbw2.size),HS.out hc,hle⟩
        case measure=>
          simp only[World.iterPos,heap_below hit2 hbv,hit];omega
      · go_wp2_with (go_at_fn (ρ.f 152); refine(HR.out _ _ HO.out).mono ?_; rintro e w' ⟨v,rfl,hv,hbv⟩; rw[hc]at hv; have hv0:(0:Int)≤v:=of_decide_eq_true hv)
        go_ret
        exact⟨⟨_,rfl,.inl ⟨by rw[HH.out hc],by rw[HH.out hc]; exact hp⟩⟩,hbw2.trans (hbv.mono hbw2.size)⟩
    · have hnx:∀ty,(Instr.next (.pointer (some ⟨(w.heap.size+1+1),0,none⟩)) true ty).run P wr=_:=fun ty=>Lib.run_next_end_at wr (w.heap.size+1+1) s pos ty hit hp
      go_wp2
      go_ret
      exact⟨⟨_,rfl,.inr ⟨rfl,HN.out.over hp hq⟩⟩,hbw⟩
end
def S7: ByteArray:=⟨#[10,13,194,133,226,128,168]⟩
def At7(pos:Nat):Prop:=pos=0∨pos=1∨pos=2∨pos=4∨pos=7
theorem at7(pos:Nat)(h:At7 pos)(hp:pos<S7.size):(((Utf8.decode S7 pos).1:Nat):Int)≠65533∧At7 (pos+(Utf8.decode S7 pos).2)∧1≤(Utf8.decode S7 pos).2:=by
  rcases h with rfl | rfl | rfl | rfl | rfl
  · exact⟨by decide +kernel,.inr (.inl (by decide +kernel)),by decide +kernel⟩
  · exact⟨by decide +kernel,.inr (.inr (.inl (by decide +kernel))),by decide +kernel⟩
  · exact⟨by decide +kernel,.inr (.inr (.inr (.inl (by decide +kernel)))),by decide +kernel⟩
  · exact⟨by decide +kernel,.inr (.inr (.inr (.inr (by decide +kernel)))),by decide +kernel⟩
  · exact absurd hp (by decide)
set_option maxRecDepth 1000000 in
theorem irune_err7(w:World):Calls Tryz.prog 71 #[.string S7,.int .i32 65533] w fun e w'=>e=.returned (.int .i64 (-1))∧Below w.heap.size w w':=by
  have HA:Aside (∀(pos:Nat),At7 pos→pos<S7.size→(((Utf8.decode S7 pos).1:Nat):Int)≠65533∧At7 (pos+(Utf8.decode S7 pos).2)∧1≤(Utf8.decode S7 pos).2):=at7;generalize S7=s at HA
  go_enter Tryz.func71,Tryz.ntmps71
  go_wp2
  go_loopw [] (fun wr=>∃(pos:Nat),wr.heap[w.heap.size]?=some (.stringIter s pos)∧Below w.heap.size w wr∧At7 pos) (fun wr=>s.size-wr.iterPos w.heap.size)
  case atStart=>
    refine⟨0,?_,(Below.refl _ w).alloc (Nat.le_refl _) _,.inl rfl⟩;simpa using World.iter_heap w s 0
  case round=>
    obtain⟨pos,hit,hbw,hat⟩:=hrel;have hsz:w.heap.size<wr.heap.size:=(Array.getElem?_eq_some_iff.1 hit).1;by_cases hp:pos<s.size
    · have hnx:∀ty,(Instr.next (.pointer (some ⟨w.heap.size,0,none⟩)) true ty).run Tryz.prog wr=_:=fun ty=>Lib.run_next_any_at wr w.heap.size s pos ty hit hp;obtain⟨hd,ha2,hw1⟩:=HA.out pos hat hp;have hit2:=Lib.iterAt_heap wr w.heap.size s pos (pos+(Utf8.decode s pos).2) hit;have hbw2:=Lib.below_iterAt hbw (k:=w.heap.size) (by omega) s (pos+(Utf8.decode s pos).2);generalize Utf8.decode s pos=d at hnx hit2 hbw2 hd ha2 hw1;obtain⟨c,wd⟩:=d;dsimp only at hnx hit2 hbw2 hd ha2 hw1;have hq:(((c:Nat):Int)==65533)=false:=beq_eq_false_iff_ne.2 hd;have HB:Aside (At7 (pos+wd)):=ha2;clear hat ha2 hd
      go_wp2
      go_roundw
      case rel=>exact⟨pos+wd,hit2,hbw2,HB.out⟩
      case measure=>
        simp only[World.iterPos,hit2,hit];omega
    · have hnx:∀ty,(Instr.next (.pointer (some ⟨w.heap.size,0,none⟩)) true ty).run Tryz.prog wr=_:=fun ty=>Lib.run_next_end_at wr w.heap.size s pos ty hit hp;clear hat
      go_wp2
      go_ret
      exact⟨rfl,hbw⟩
theorem ix7: ∀k:Nat,k<128→decide (0≤Lib.indexByte S7.data.toList (k:Int).toNat.toUInt8)=ln7 k:=by decide +kernel
theorem iany7(s:ByteArray)(hir:∀(r:Int) (w:World),OkR r→Calls Tryz.prog 71 #[.string S7,.int .i32 r] w fun e w'=>∃v:Int,e=.returned (.int .i64 v)∧decide (0≤v)=ln7 r∧Below w.heap.size w w')(w:World)(hs:s.size<4294967281):
    Calls Tryz.prog 51 #[.string s,.string S7] w fun e w'=>(∃v:Int,e=.returned (.int .i64 v)∧(v=((lnN s.size s.data.toList:Nat):Int)∧lnN s.size s.data.toList<s.size∨v=-1∧lnN s.size s.data.toList=s.size))∧Below w.heap.size w w':=by
  by_cases h8:8<s.size
  · exact zgh Tryz.lays153 (fun w=>by kernel_rfl) (by kernel_rfl) s S7 rfl hir w h8 hs
  · exact zaa Tryz.lays153 (fun w=>by kernel_rfl) (by kernel_rfl) s S7 rfl hir w (by omega) hs
end Go.Proofs.YtjhkejihhpnooaaGreatDoor.C
namespace Go.Proofs.YtjhkejihhpnooaaGreatDoor.G
open Go.RowKit
set_option maxRecDepth 100000

open C (ln7)
theorem jjg{w:World}{l:List UInt8}{b:UInt8}{v:Int}(h:Lib.indexByte l b=v):Calls Tryz.prog 105 #[.string (tx l),.int .u8 ((b.toNat:Nat):Int)] w fun e w'=>e=.returned (iV v)∧Below w.heap.size w w':=
 (Tryz.strings_IndexByte (tx l) ((b.toNat:Nat):Int) w).mono fun e w' h1=>⟨by rw[h1.1,xl,Int.toNat_natCast,show b.toNat.toUInt8=b from UInt8.ofNat_toNat,h],by rw[h1.2]; exact Below.refl _ _⟩
theorem job{w:World}{r:Int}(h:Lib.validRune r=true):Calls Tryz.prog 67 #[.int .i32 r] w fun e w'=>e=.returned (bV true)∧Below w.heap.size w w':=
 (Tryz.utf8_ValidRune r w).mono fun e w' h1=>⟨by rw[h1.1,h],by rw[h1.2]; exact Below.refl _ _⟩
theorem zgi{r:Int}(hv:Lib.validRune r=true){l:List UInt8}(h:Lib.encodeRune r=l):Utf8.encode r=tx l:=by
 have:=encode_valid r (by obtain h | h:=of_decide_eq_true hv<;>exact⟨by omega,by omega,by omega⟩);rw[h]at this;rw[←this,jje]
theorem qbe{x:Int}(h0:0≤x)(h1:x≤255):((x.toNat.toUInt8.toNat:Nat):Int)=x:=by
 rw[show x.toNat.toUInt8.toNat=x.toNat from by simp; omega];omega
theorem joc{w:World}:Calls Tryz.prog 106 #[iV 1] w fun e w'=>e=.returned (iV 2)∧Below w.heap.size w w':=by
 have M:Mg w w ([]):=Mg.start w;refine qn (l:=[(0,iV 1)]) Tryz.func106 rfl Tryz.ntmps106 rfl rfl ?_;intro Q hret hnorm hP a A;refine wsk fun K1 hK1=>wrl (sda A λa A=>?_);refine qa (hK1 _ _ (wsk fun K2 hK2=>wrl (sdm A λa A=>?_)));refine sdo (v:=iV 17) A (qe rfl rfl (ar_add rfl)) λa A=>?_;refine sdo (v:=iV 2) A (qe rfl rfl (ar_quo (by decide) (by decide))) λa A=>?_;refine sda A λa A=>?_;refine qa (hK2 _ _ (wr1 hret A ?_));exact⟨rfl,M.bel⟩
theorem jod{w:World}:Calls Tryz.prog 106 #[iV 2] w fun e w'=>e=.returned (iV 2)∧Below w.heap.size w w':=by
 have M:Mg w w ([]):=Mg.start w;refine qn (l:=[(0,iV 2)]) Tryz.func106 rfl Tryz.ntmps106 rfl rfl ?_;intro Q hret hnorm hP a A;refine wsk fun K1 hK1=>wrl (sda A λa A=>?_);refine qa (hK1 _ _ (wsk fun K2 hK2=>wrl (sdm A λa A=>?_)));refine sdo (v:=iV 18) A (qe rfl rfl (ar_add rfl)) λa A=>?_;refine sdo (v:=iV 2) A (qe rfl rfl (ar_quo (by decide) (by decide))) λa A=>?_;refine sda A λa A=>?_;refine qa (hK2 _ _ (wr1 hret A ?_));exact⟨rfl,M.bel⟩
theorem joe{w:World}:Calls Tryz.prog 106 #[iV 3] w fun e w'=>e=.returned (iV 2)∧Below w.heap.size w w':=by
 have M:Mg w w ([]):=Mg.start w;refine qn (l:=[(0,iV 3)]) Tryz.func106 rfl Tryz.ntmps106 rfl rfl ?_;intro Q hret hnorm hP a A;refine wsk fun K1 hK1=>wrl (sda A λa A=>?_);refine qa (hK1 _ _ (wsk fun K2 hK2=>wrl (sdm A λa A=>?_)));refine sdo (v:=iV 19) A (qe rfl rfl (ar_add rfl)) λa A=>?_;refine sdo (v:=iV 2) A (qe rfl rfl (ar_quo (by decide) (by decide))) λa A=>?_;refine sda A λa A=>?_;refine qa (hK2 _ _ (wr1 hret A ?_));exact⟨rfl,M.bel⟩
theorem jof{w:World}:Calls Tryz.prog 106 #[iV 4] w fun e w'=>e=.returned (iV 2)∧Below w.heap.size w w':=by
 have M:Mg w w ([]):=Mg.start w;refine qn (l:=[(0,iV 4)]) Tryz.func106 rfl Tryz.ntmps106 rfl rfl ?_;intro Q hret hnorm hP a A;refine wsk fun K1 hK1=>wrl (sda A λa A=>?_);refine qa (hK1 _ _ (wsk fun K2 hK2=>wrl (sdm A λa A=>?_)));refine sdo (v:=iV 20) A (qe rfl rfl (ar_add rfl)) λa A=>?_;refine sdo (v:=iV 2) A (qe rfl rfl (ar_quo (by decide) (by decide))) λa A=>?_;refine sda A λa A=>?_;refine qa (hK2 _ _ (wr1 hret A ?_));exact⟨rfl,M.bel⟩
theorem jog{w:World}:Calls Tryz.prog 106 #[iV 5] w fun e w'=>e=.returned (iV 2)∧Below w.heap.size w w':=by
 have M:Mg w w ([]):=Mg.start w;refine qn (l:=[(0,iV 5)]) Tryz.func106 rfl Tryz.ntmps106 rfl rfl ?_;intro Q hret hnorm hP a A;refine wsk fun K1 hK1=>wrl (sda A λa A=>?_);refine qa (hK1 _ _ (wsk fun K2 hK2=>wrl (sdm A λa A=>?_)));refine sdo (v:=iV 21) A (qe rfl rfl (ar_add rfl)) λa A=>?_;refine sdo (v:=iV 2) A (qe rfl rfl (ar_quo (by decide) (by decide))) λa A=>?_;refine sda A λa A=>?_;refine qa (hK2 _ _ (wr1 hret A ?_));exact⟨rfl,M.bel⟩
theorem joh{w:World}:Calls Tryz.prog 106 #[iV 6] w fun e w'=>e=.returned (iV 2)∧Below w.heap.size w w':=by
 have M:Mg w w ([]):=Mg.start w;refine qn (l:=[(0,iV 6)]) Tryz.func106 rfl Tryz.ntmps106 rfl rfl ?_;intro Q hret hnorm hP a A;refine wsk fun K1 hK1=>wrl (sda A λa A=>?_);refine qa (hK1 _ _ (wsk fun K2 hK2=>wrl (sdm A λa A=>?_)));refine sdo (v:=iV 22) A (qe rfl rfl (ar_add rfl)) λa A=>?_;refine sdo (v:=iV 2) A (qe rfl rfl (ar_quo (by decide) (by decide))) λa A=>?_;refine sda A λa A=>?_;refine qa (hK2 _ _ (wr1 hret A ?_));exact⟨rfl,M.bel⟩
theorem joi{w:World}:Calls Tryz.prog 106 #[iV 7] w fun e w'=>e=.returned (iV 2)∧Below w.heap.size w w':=by
 have M:Mg w w ([]):=Mg.start w;refine qn (l:=[(0,iV 7)]) Tryz.func106 rfl Tryz.ntmps106 rfl rfl ?_;intro Q hret hnorm hP a A;refine wsk fun K1 hK1=>wrl (sda A λa A=>?_);refine qa (hK1 _ _ (wsk fun K2 hK2=>wrl (sdm A λa A=>?_)));refine sdo (v:=iV 23) A (qe rfl rfl (ar_add rfl)) λa A=>?_;refine sdo (v:=iV 2) A (qe rfl rfl (ar_quo (by decide) (by decide))) λa A=>?_;refine sda A λa A=>?_;refine qa (hK2 _ _ (wr1 hret A ?_));exact⟨rfl,M.bel⟩
def s7: List UInt8:=[10,13,194,133,226,128,168]
theorem qoj: s7.length=7:=rfl
theorem joj{i k:Nat}(h1:i<k)(h2:k<7):s7.getD i 0≠s7.getD k 0:=by
 have h:∀i k:Fin 7,i<k→s7.getD i 0≠s7.getD k 0:=by decide
 exact h ⟨i,by omega⟩ ⟨k,h2⟩ h1
theorem qlf{l:List UInt8}{i:Nat}(h:i<l.length):l[i]?=some (l.getD i 0):=by
 rw[List.getD_eq_getElem?_getD,List.getElem?_eq_getElem h]; rfl
theorem qpa{a b:UInt8}(h:((a.toNat:Nat):Int)=((b.toNat:Nat):Int)):a=b:=UInt8.toNat_inj.1 (by omega)
def atS(B:List UInt8)(k:Nat):Prop:=B.length-1≤k∧k<7∧∀t,t<B.length→s7.getD (k-t) 0=B.getD (B.length-1-t) 0
theorem jpa{B:List UInt8}{i:Nat}(hB:2≤B.length)(h:Lib.indexByte (s7.drop (i+1)) (B.getD (B.length-1) 0)=-1)(hn:s7.getD i 0≠B.getD (B.length-1) 0)(hlt:∀k,k<i→¬atS B k):∀k,¬atS B k:=fun k hk=>by
 have h0:s7.getD k 0=B.getD (B.length-1) 0:=hk.2.2 0 (by omega);have hk7:=hk.2.1;by_cases h1:k<i
 ·exact hlt k h1 hk
 by_cases h2:k=i
 ·subst h2; exact hn h0
 refine Lib.indexByte_none h (k-(i+1)) ?_;rw[List.getElem?_drop,show i+1+(k-(i+1))=k by omega,qlf (by rw[qoj]; exact hk7),h0]
theorem zwa{B:List UInt8}{i o:Nat}(hB:2≤B.length)(h:Lib.indexByte (s7.drop (i+1)) (B.getD (B.length-1) 0)=((o:Nat):Int))(hn:s7.getD i 0≠B.getD (B.length-1) 0)(hlt:∀k,k<i→¬atS B k):i+o+1<7∧s7.getD (i+o+1) 0=B.getD (B.length-1) 0∧∀k,k<i+o+1→¬atS B k:=by
 obtain⟨h1,h2⟩:=Lib.indexByte_some h;rw[List.getElem?_drop,show i+1+o=i+o+1 by omega]at h1;obtain⟨h3,h4⟩:=List.getElem?_eq_some_iff.1 h1;rw[qoj]at h3;have h5:=h1;rw[qlf (by rw[qoj]; exact h3)]at h5;refine⟨h3,Option.some.inj h5,fun k hk hs=>?_⟩;have h0:s7.getD k 0=B.getD (B.length-1) 0:=hs.2.2 0 (by omega);by_cases h6:k<i
 ·exact hlt k h6 hs
 by_cases h7:k=i
 ·subst h7; exact hn h0
 refine h2 (k-(i+1)) (by omega) ?_;rw[List.getElem?_drop,show i+1+(k-(i+1))=k by omega,qlf (by rw[qoj]; omega),h0]
theorem jeg{w:World}{i:Nat}(h1:1≤i)(h:i≤7):Calls Tryz.prog 106 #[iV ((i:Nat):Int)] w fun e w'=>e=.returned (iV 2)∧Below w.heap.size w w':=by
 match i,h1,h with
 | 1, _, _ => exact joc
 | 2, _, _ => exact jod
 | 3, _, _ => exact joe
 | 4, _, _ => exact jof
 | 5, _, _ => exact jog
 | 6, _, _ => exact joh
 | 7, _, _ => exact joi
theorem jeh{w:World}{r:Int}{B:List UInt8}(h2:2≤B.length)(h4:B.length≤4)(h0:128≤r)(hne:r≠65533)(hv:Lib.validRune r=true)(henc:Utf8.encode r=tx B):Calls Tryz.prog 71 #[.string (tx s7),.int .i32 r] w fun e w'=>∃v:Int,e=.returned (iV v)∧(0≤v∧(∃k,atS B k)∨v<0∧∀k,¬atS B k)∧Below w.heap.size w w':=by
 have hs7:=qoj;have M:Mg w w ([]):=Mg.start w;refine qn (l:=[(0,.string ((tx s7))),(1,.int .i32 r)]) Tryz.func71 rfl Tryz.ntmps71 rfl rfl ?_;intro Q hret hnorm hP a A;refine wsk fun K1 hK1=>wrl (sda A λa A=>?_);refine qa (hK1 _ _ (wp_block (wsk fun K2 hK2=>wrl (sdm A λa A=>?_))));refine sdo (v:=bV true) A (qe rfl rfl (fun w=>(jc w).trans (by rw[show(decide (0≤r))=true from(decide_eq_true (by omega))]))) λa A=>?_;iterate 2 refine sdm A λa A=>?_
 refine sdo (v:=bV false) A (qe rfl rfl (fun w=>(zr w).trans (by rw[show(decide (r<128))=false from(decide_eq_false (by omega))]))) λa A=>?_;refine sdk (v:=bV false) A λa A=>?_;refine sda A λa A=>?_;refine qa (hK2 _ _ (cf A ?_));refine wsk fun K3 hK3=>wrl (sdm A λa A=>?_);refine sdo (v:=bV false) A (qe rfl rfl (fun w=>(qf w).trans (by rw[show((r==65533))=false from(beq_eq_false_iff_ne.2 (by omega))]))) λa A=>?_;refine sda A λa A=>?_;refine qa (hK3 _ _ (cf A ?_));refine wsk fun K4 hK4=>wrl (sdm A λa A=>?_);refine gcl A M (ef rfl rfl) (job hv) fun w6 hb5 M a A=>?_;refine sdo (v:=bV false) A (qr rfl zb) λa A=>?_;refine sda A λa A=>?_;refine qa (hK4 _ _ (cf A ?_));refine qhg 1 rfl ?_;refine wsk fun K7 hK7=>wrl (sdm A λa A=>?_);refine sdo (v:=.string ((tx B))) A (zq rfl (fun w=>(run_convert_int_string w _ _ .i32 r (by kernel_rfl) Tryz.underlying9).trans (by rw[henc]))) λa A=>?_;refine sda A λa A=>?_;refine qa (hK7 _ _ (wsk fun K8 hK8=>wrl (sdm A λa A=>?_)));refine sdo (v:=iV (((B.length:Nat):Int))) A (xx (s:=B) Tryz.underlying9 rfl) λa A=>?_;refine sdo (v:=iV (((B.length-1:Nat):Int))) A (qe rfl rfl (ar_sub ((in_i64 (by omega) (by omega)).trans (by omega)))) λa A=>?_;refine sda A λa A=>?_;refine qa (hK8 _ _ (wsk fun K9 hK9=>wrl (sdm A λa A=>?_)));refine sda A λa A=>?_;refine qa (hK9 _ _ (wsk fun K10 hK10=>wrl (sda A λa A=>?_)))
 refine qa (hK10 _ _ (wsk fun K11 hK11=>wp_block (jd (fun m_ a w1=>∃(i:Nat) (f:Nat),m_=8-i∧(B.length-1≤i∧i≤7∧(∀k,k<i→¬atS B k)∧(f=0∨f=1∧∀k,i≤k→k<7→s7.getD k 0≠B.getD (B.length-1) 0))∧Sl a 187 [(0,.string ((tx s7))),(1,.int .i32 r),(7,.string ((tx B))),(8,iV (((B.length-1:Nat):Int))),(9,iV (((i:Nat):Int))),(10,iV (((f:Nat):Int))),(17,.int .i32 r),(18,.string ((tx B))),(19,.string ((tx B))),(20,iV (((B.length:Nat):Int))),(21,iV (((B.length-1:Nat):Int))),(22,iV (((B.length-1:Nat):Int))),(160,bV false),(161,.int .i32 r),(162,bV true),(163,bV true),(164,.int .i32 r),(165,bV false),(166,bV false),(171,bV false),(172,.int .i32 r),(173,bV false),(183,bV false),(184,.int .i32 r),(185,bV true),(186,bV false)]∧Mg w w1 ([])) _ ⟨B.length-1,0,rfl,⟨Nat.le_refl _,by omega,fun k hk hs=>absurd hs.1 (by omega),.inl rfl⟩,A.keep _ (by repeat' constructor),M⟩ ?_)));clear M A;rintro m_ a w12 ⟨i,f,rfl,hinv14,A,M⟩ K13 hK13;obtain⟨hi1,hi2,hi3,hi4⟩:=hinv14;refine wsk fun K15 hK15=>wsk fun K16 hK16=>wrl ?_;iterate 2 refine sdm A λa A=>?_
 refine sdo (v:=iV (((s7.length:Nat):Int))) A (xx (s:=s7) Tryz.underlying9 rfl) λa A=>?_;rcases tf (decide (((i:Nat):Int)<((s7.length:Nat):Int)))with hb17 | hb17
 ·have hb17':=of_decide_eq_true hb17;refine sdc A zr hb17 λa A=>?_;refine qa (hK16 _ _ (ct A ?_));refine wp_skip (hK15 _ _ (wp_block (qhg 0 rfl ?_)));refine wsk fun K18 hK18=>?_;have hJ19:∀a w1,(∃(q:Nat),(B.length-1≤q∧i≤q∧q<7∧s7.getD q 0=B.getD (B.length-1) 0∧(∀k,k<q→¬atS B k)∧f=0)∧Sl a 187 [(0,.string ((tx s7))),(1,.int .i32 r),(7,.string ((tx B))),(8,iV (((B.length-1:Nat):Int))),(9,iV (((q:Nat):Int))),(10,iV (((f:Nat):Int))),(17,.int .i32 r),(18,.string ((tx B))),(19,.string ((tx B))),(20,iV (((B.length:Nat):Int))),(21,iV (((B.length-1:Nat):Int))),(22,iV (((B.length-1:Nat):Int))),(23,iV (((i:Nat):Int))),(24,.string ((tx s7))),(25,iV (((s7.length:Nat):Int))),(26,bV true),(160,bV false),(161,.int .i32 r),(162,bV true),(163,bV true),(164,.int .i32 r),(165,bV false),(166,bV false),(171,bV false),(172,.int .i32 r),(173,bV false),(183,bV false),(184,.int .i32 r),(185,bV true),(186,bV false)]∧Mg w w1 ([]))→K18 a w1:=by
   clear A M;rintro a w20 ⟨q,hf21,A,M⟩;obtain⟨hq1,hqi,hq2,hq3,hq4,hf0⟩:=hf21;refine hK18 _ _ (wsk fun K22 hK22=>wsk fun K23 hK23=>wrl (sda A λa A=>?_));refine qa (hK23 _ _ (wp_block (jd (fun m_ a w1=>∃(j:Nat),m_=B.length-j∧(1≤j∧j≤B.length∧∀t,t<j→s7.getD (q-t) 0=B.getD (B.length-1-t) 0)∧Sl a 187 [(0,.string ((tx s7))),(1,.int .i32 r),(7,.string ((tx B))),(8,iV (((B.length-1:Nat):Int))),(9,iV (((q:Nat):Int))),(10,iV (((f:Nat):Int))),(12,iV (((j:Nat):Int))),(17,.int .i32 r),(18,.string ((tx B))),(19,.string ((tx B))),(20,iV (((B.length:Nat):Int))),(21,iV (((B.length-1:Nat):Int))),(22,iV (((B.length-1:Nat):Int))),(23,iV (((i:Nat):Int))),(24,.string ((tx s7))),(25,iV (((s7.length:Nat):Int))),(26,bV true),(160,bV false),(161,.int .i32 r),(162,bV true),(163,bV true),(164,.int .i32 r),(165,bV false),(166,bV false),(171,bV false),(172,.int .i32 r),(173,bV false),(183,bV false),(184,.int .i32 r),(185,bV true),(186,bV false)]∧Mg w w1 ([])) _ ⟨1,rfl,⟨Nat.le_refl _,by omega,fun t ht=>by rw[show t=0 by omega]; exact hq3⟩,A.keep _ (by repeat' constructor),M⟩ ?_)));clear M A;rintro m_ a w24 ⟨j,rfl,hinv26,A,M⟩ K25 hK25;obtain⟨hj1,hj2,hj3⟩:=hinv26;refine wsk fun K27 hK27=>wsk fun K28 hK28=>wrl ?_;iterate 2 refine sdm A λa A=>?_
   refine sdo (v:=iV (((B.length:Nat):Int))) A (xx (s:=B) Tryz.underlying9 rfl) λa A=>?_;rcases tf (decide (((j:Nat):Int)<((B.length:Nat):Int)))with hb29 | hb29
   ·have hb29':=of_decide_eq_true hb29;refine sdc A zr hb29 λa A=>?_;refine qa (hK28 _ _ (ct A ?_));refine wp_skip (hK27 _ _ (wsk fun K30 hK30=>wp_block (wsk fun K31 hK31=>jt (S:=fun w1=>Mg w w1 ([])) (by kernel_rfl) ?_)));replace M:=M.drew;refine amv A 0 rfl hP (M.sub ns) λa A=>?_;refine amv A 1 rfl hP (M.sub ns) λa A=>?_;refine amv A 2 rfl hP (M.sub ns) λa A=>?_;refine atk (v:=iV (((q-j:Nat):Int))) A 3 rfl hP (M.sub ns) (λ_ M=>qe rfl rfl (ar_sub ((in_i64 (by omega) (by omega)).trans (by omega)))) λa A=>?_;refine atk (v:=.int .u8 ((((s7.getD (q-j) 0).toNat:Nat):Int))) A 4 rfl hP (M.sub ns) (λ_ M=>qad (s:=s7) (i:=q-j) (b:=s7.getD (q-j) 0) Tryz.underlying9 rfl rfl rfl (qlf (by omega))) λa A=>?_;refine amv A 5 rfl hP (M.sub ns) λa A=>?_;refine amv A 6 rfl hP (M.sub ns) λa A=>?_;refine amv A 7 rfl hP (M.sub ns) λa A=>?_;refine atk (v:=iV (((B.length-1-j:Nat):Int))) A 8 rfl hP (M.sub ns) (λ_ M=>qe rfl rfl (ar_sub ((in_i64 (by omega) (by omega)).trans (by omega)))) λa A=>?_;refine atk (v:=.int .u8 ((((B.getD (B.length-1-j) 0).toNat:Nat):Int))) A 9 rfl hP (M.sub ns) (λ_ M=>qad (s:=B) (i:=B.length-1-j) (b:=B.getD (B.length-1-j) 0) Tryz.underlying9 rfl rfl rfl (qlf (by omega))) λa A=>?_;rcases tf (((((s7.getD (q-j) 0).toNat:Nat):Int) != (((B.getD (B.length-1-j) 0).toNat:Nat):Int)))with hb32 | hb32
    ·have hb32':=bne_iff_ne.1 hb32;refine atk (v:=bV true) A 10 rfl hP (M.sub ns) (λ_ M=>qe rfl rfl (fun w=>(zt w).trans (by rw[hb32]))) λa A=>?_;refine zx (by kernel_rfl) ?_;refine hK31 _ _ (ct A ?_);refine wp_goto (And.intro rfl ?_);refine wsk fun K33 hK33=>wp_skip (hK33 _ _ (wsk fun K34 hK34=>wrl (sdm A λa A=>?_)));refine sdo (v:=iV (((f+1:Nat):Int))) A (qe rfl rfl (ar_add ((in_i64 (by omega) (by omega)).trans (by omega)))) λa A=>?_;refine sda A λa A=>?_;refine qa (hK34 _ _ (wsk fun K35 hK35=>wrl (sdm A λa A=>?_)));refine sdo (v:=iV (((q+1:Nat):Int))) A (qe rfl rfl (ar_add ((in_i64 (by omega) (by omega)).trans (by omega)))) λa A=>?_;refine sda A λa A=>?_;refine qa (hK35 _ _ (wsk fun K36 hK36=>wrl ?_));iterate 3 refine sdm A λa A=>?_
     refine gcl A M (ef rfl rfl) (jeg (by omega) (by omega)) fun w38 hb37 M a A=>?_;refine sdo (v:=bV false) A (qe rfl rfl (fun w=>(zp w).trans (by rw[show(decide (2<((f+1:Nat):Int)))=false from(decide_eq_false (by omega))]))) λa A=>?_;refine sdk (v:=bV false) A λa A=>?_;refine sdm A λa A=>?_;iterate 4 refine qg A rfl rfl rfl λa A=>?_
     refine sdk (v:=bV false) A λa A=>?_;iterate 2 refine sdm A λa A=>?_
     iterate 5 refine qg A rfl rfl rfl λa A=>?_
     refine sdk (v:=bV false) A λa A=>?_;refine sdm A λa A=>?_;iterate 4 refine qg A rfl rfl rfl λa A=>?_
     iterate 2 refine sdk (v:=bV false) A λa A=>?_
     refine qa (hK36 _ _ (cf A ?_));refine wp_skip ?_;refine hK13 _ _ _ (by omega) ⟨q+1,f+1,rfl,⟨by omega,by omega,fun k hk hs=>by by_cases h9:k<q; exact hq4 k h9 hs; rw[show k=q by omega]at hs; exact bne_iff_ne.1 hb32 (by rw[hs.2.2 j (by omega)]),.inr ⟨by omega,fun k h8 h9 k9=>joj (i:=q) (k:=k) (by omega) h9 (hq3.trans k9.symm)⟩⟩,A.keep _ (by repeat' constructor),M⟩
    ·have hb32':=bne_eq_false_iff_eq.1 hb32;refine atk (v:=bV false) A 10 rfl hP (M.sub ns) (λ_ M=>qe rfl rfl (fun w=>(zt w).trans (by rw[hb32]))) λa A=>?_;refine zx (by kernel_rfl) ?_;refine hK31 _ _ (cf A ?_);refine wp_skip (hK30 _ _ (wrl (sdm A λa A=>?_)));refine sdo (v:=iV (((j+1:Nat):Int))) A (qe rfl rfl (ar_add ((in_i64 (by omega) (by omega)).trans (by omega)))) λa A=>?_;refine sda A λa A=>?_;refine qa ?_;refine hK25 _ _ _ (by omega) ⟨j+1,rfl,⟨by omega,by omega,fun t ht=>by by_cases h9:t<j; exact hj3 t h9; rw[show t=j by omega]; exact qpa (by simpa using hb32)⟩,A.keep _ (by repeat' constructor),M⟩
   ·have hb29':=of_decide_eq_false hb29;refine sdc A zr hb29 λa A=>?_;refine qa (hK28 _ _ (cf A ?_));refine wp_exit (hK22 _ _ (wsk fun K39 hK39=>wsk fun K40 hK40=>wrl ?_));iterate 2 refine sdm A λa A=>?_
    refine sdo (v:=iV (((q-(B.length-1):Nat):Int))) A (qe rfl rfl (ar_sub ((in_i64 (by omega) (by omega)).trans (by omega)))) λa A=>?_;refine sda A λa A=>?_;refine qa (hK40 _ _ (wr1 hret A ?_));exact⟨_,rfl,.inl ⟨by omega,q,hq1,hq2,fun t ht=>hj3 t (by have h9:=of_decide_eq_false hb29; omega)⟩,M.bel⟩
  refine wsk fun K41 hK41=>jt (S:=fun w1=>Mg w w1 ([])) (by kernel_rfl) ?_;replace M:=M.drew;refine amv A 0 rfl hP (M.sub ns) λa A=>?_;refine amv A 1 rfl hP (M.sub ns) λa A=>?_;refine atk (v:=.int .u8 ((((s7.getD i 0).toNat:Nat):Int))) A 2 rfl hP (M.sub ns) (λ_ M=>qad (s:=s7) (i:=i) (b:=s7.getD i 0) Tryz.underlying9 rfl rfl rfl (qlf (by omega))) λa A=>?_;refine amv A 3 rfl hP (M.sub ns) λa A=>?_;refine amv A 4 rfl hP (M.sub ns) λa A=>?_;refine atk (v:=.int .u8 ((((B.getD (B.length-1) 0).toNat:Nat):Int))) A 5 rfl hP (M.sub ns) (λ_ M=>qad (s:=B) (i:=B.length-1) (b:=B.getD (B.length-1) 0) Tryz.underlying9 rfl rfl rfl (qlf (by omega))) λa A=>?_;rcases tf (((((s7.getD i 0).toNat:Nat):Int) != (((B.getD (B.length-1) 0).toNat:Nat):Int)))with hb42 | hb42
  ·have hb42':=bne_iff_ne.1 hb42;refine atk (v:=bV true) A 6 rfl hP (M.sub ns) (λ_ M=>qe rfl rfl (fun w=>(zt w).trans (by rw[hb42]))) λa A=>?_;refine zx (by kernel_rfl) ?_;refine hK41 _ _ (ct A ?_);refine wsk fun K43 hK43=>jt (S:=fun w1=>Mg w w1 ([])) (by kernel_rfl) ?_;replace M:=M.drew;refine amv A 0 rfl hP (M.sub ns) λa A=>?_;refine amv A 1 rfl hP (M.sub ns) λa A=>?_;refine atk (v:=iV (((i+1:Nat):Int))) A 2 rfl hP (M.sub ns) (λ_ M=>qe rfl rfl (ar_add ((in_i64 (by omega) (by omega)).trans (by omega)))) λa A=>?_;refine atk (v:=.string ((tx (s7.drop (i+1))))) A 3 rfl hP (M.sub ns) (λ_ M=>vy (s:=s7) (p:=i+1) Tryz.underlying9 rfl rfl rfl (by omega)) λa A=>?_;refine amv A 4 rfl hP (M.sub ns) λa A=>?_;refine amv A 5 rfl hP (M.sub ns) λa A=>?_;refine atk (v:=.int .u8 ((((B.getD (B.length-1) 0).toNat:Nat):Int))) A 6 rfl hP (M.sub ns) (λ_ M=>qad (s:=B) (i:=B.length-1) (b:=B.getD (B.length-1) 0) Tryz.underlying9 rfl rfl rfl (qlf (by omega))) λa A=>?_;rcases tf (decide (0≤Lib.indexByte (s7.drop (i+1)) (B.getD (B.length-1) 0)))with hb45 | hb45
   ·have hb45':=of_decide_eq_true hb45;obtain⟨o,ho47⟩:=Int.eq_ofNat_of_zero_le (of_decide_eq_true hb45);have hoB:=(zwa h2 ho47 (fun k9=>bne_iff_ne.1 hb42 (by rw[k9])) hi3).1;refine zj (by kernel_rfl) (ji A 7 rfl rfl rfl rfl (ef rfl rfl) (jjg (l:=s7.drop (i+1)) (b:=B.getD (B.length-1) 0) ho47) ?_);rintro _ w48 ⟨rfl,hb46⟩;replace M:=M.call hb46;refine⟨_,rfl,(M.sub ns),?_⟩;intro a A;refine atk A 8 rfl hP (M.sub ns) (λ_ M=>ze rfl) λa A=>?_;refine zx (by kernel_rfl) ?_;refine hK43 _ _ (wsk fun K49 hK49=>wsk fun K50 hK50=>wrl (sdm A λa A=>?_));refine sdo (v:=bV false) A (qe rfl rfl (fun w=>(zr w).trans (by rw[show(decide (((o:Nat):Int)<0))=false from(decide_eq_false (by omega))]))) λa A=>?_;refine qa (hK50 _ _ (cf A ?_));refine wp_skip (hK49 _ _ (wrl ?_));iterate 2 refine sdm A λa A=>?_
    refine sdo (v:=iV (((o+1:Nat):Int))) A (qe rfl rfl (ar_add ((in_i64 (by omega) (by omega)).trans (by omega)))) λa A=>?_;refine sdo (v:=iV (((i+o+1:Nat):Int))) A (qe rfl rfl (ar_add ((in_i64 (by omega) (by omega)).trans (by omega)))) λa A=>?_;refine sda A λa A=>?_;refine qa ?_;exact hJ19 _ _ ⟨i+o+1,(by obtain⟨y1,y2,y3⟩:=zwa h2 ho47 (fun k9=>bne_iff_ne.1 hb42 (by rw[k9])) hi3; exact⟨by omega,by omega,y1,y2,y3,hi4.elim id fun k=>absurd y2 (k.2 _ (by omega) y1)⟩),A.keep _ (by repeat' constructor),M⟩
   ·have hb45':=of_decide_eq_false hb45;have ho52:Lib.indexByte (s7.drop (i+1)) (B.getD (B.length-1) 0)=-1:=(by have h8:=Lib.indexByte_ge (s7.drop (i+1)) (B.getD (B.length-1) 0); have h9:=of_decide_eq_false hb45; omega);refine zj (by kernel_rfl) (ji A 7 rfl rfl rfl rfl (ef rfl rfl) (jjg (l:=s7.drop (i+1)) (b:=B.getD (B.length-1) 0) ho52) ?_);rintro _ w53 ⟨rfl,hb51⟩;replace M:=M.call hb51;refine⟨_,rfl,(M.sub ns),?_⟩;intro a A;refine atk A 8 rfl hP (M.sub ns) (λ_ M=>ze rfl) λa A=>?_;refine zx (by kernel_rfl) ?_;refine hK43 _ _ (wsk fun K54 hK54=>wsk fun K55 hK55=>wrl (sdm A λa A=>?_));refine sdo (v:=bV true) A dbK λa A=>?_;refine qa (hK55 _ _ (ct A ?_));refine wsk fun K56 hK56=>wrl (sda A λa A=>?_);refine qa (hK56 _ _ (wr1 hret A ?_));exact⟨_,rfl,.inr ⟨by decide,jpa h2 ho52 (fun k9=>bne_iff_ne.1 hb42 (by rw[k9])) hi3⟩,M.bel⟩
  ·have hb42':=bne_eq_false_iff_eq.1 hb42;refine atk (v:=bV false) A 6 rfl hP (M.sub ns) (λ_ M=>qe rfl rfl (fun w=>(zt w).trans (by rw[hb42]))) λa A=>?_;refine zx (by kernel_rfl) ?_;refine hK41 _ _ (cf A ?_);refine wp_skip ?_;exact hJ19 _ _ ⟨i,(by have y2:s7.getD i 0=B.getD (B.length-1) 0:=qpa (by simpa using hb42); exact⟨hi1,Nat.le_refl _,by omega,y2,hi3,hi4.elim id fun k=>absurd y2 (k.2 _ (Nat.le_refl _) (by omega))⟩),A.keep _ (by repeat' constructor),M⟩
 ·have hb17':=of_decide_eq_false hb17;refine sdc A zr hb17 λa A=>?_;refine qa (hK16 _ _ (cf A ?_));refine wp_exit (hK11 _ _ (wsk fun K57 hK57=>wsk fun K58 hK58=>wrl (sda A λa A=>?_)));refine qa (hK58 _ _ (wr1 hret A ?_));exact⟨_,rfl,.inr ⟨by decide,fun k hk=>hi3 k (by have h8:=hk.2.1; have h9:=of_decide_eq_false hb17; omega) hk⟩,M.bel⟩
theorem qwa{w:World}{r:Int}{B:List UInt8}(h2:2≤B.length)(h4:B.length≤4)(h0:128≤r)(hne:r≠65533)(hv:Lib.validRune r=true)(henc:Utf8.encode r=tx B)(hx:(∃k,atS B k)↔ln7 r=true):Calls Tryz.prog 71 #[.string (tx s7),.int .i32 r] w fun e w'=>∃v:Int,e=.returned (iV v)∧decide (0≤v)=ln7 r∧Below w.heap.size w w':=(jeh h2 h4 h0 hne hv henc).mono fun e w' ⟨v,h1,h3,h5⟩=>by
 refine⟨v,h1,?_,h5⟩;rcases h3 with⟨h6,h7⟩ | ⟨h6,h7⟩
 ·rw[hx.1 h7]; exact decide_eq_true h6
 ·rw[show ln7 r=false from Bool.eq_false_iff.2 fun k=>(hx.2 k).elim h7]; exact decide_eq_false (by omega)
theorem zwb{k:Nat}(h:k<7):k=0∨k=1∨k=2∨k=3∨k=4∨k=5∨k=6:=by omega
theorem jsa{r:Int}{b0 b1:UInt8}(h0:128≤r)(h1:r≤2047)(e0:((b0.toNat:Nat):Int)=192+r / 64)(e1:((b1.toNat:Nat):Int)=128+r%64):(∃k,atS [b0,b1] k)↔ln7 r=true:=by
 constructor
 ·rintro⟨k,q1,q2,q3⟩;have z1:s7.getD k 0=b1:=q3 0 (by simp);have z0:s7.getD (k-1) 0=b0:=q3 1 (by simp);subst z1 z0;apply decide_eq_true;rcases zwb q2 with rfl | rfl | rfl | rfl | rfl | rfl | rfl<;>simp[s7]at e0 e1<;>omega
 ·intro h;have hr:r=133:=by have:=of_decide_eq_true h; omega
  subst hr;obtain rfl:b0=194:=qpa (e0.trans (by decide));obtain rfl:b1=133:=qpa (e1.trans (by decide));exact⟨3,by decide,by decide,by decide⟩
theorem jsb{r:Int}{b0 b1 b2:UInt8}(h0:2048≤r)(h1:r≤65535)(e0:((b0.toNat:Nat):Int)=224+r / 4096)(e1:((b1.toNat:Nat):Int)=128+r / 64%64)(e2:((b2.toNat:Nat):Int)=128+r%64):(∃k,atS [b0,b1,b2] k)↔ln7 r=true:=by
 constructor
 ·rintro⟨k,q1,q2,q3⟩;have z2:s7.getD k 0=b2:=q3 0 (by simp);have z1:s7.getD (k-1) 0=b1:=q3 1 (by simp);have z0:s7.getD (k-2) 0=b0:=q3 2 (by simp);subst z2 z1 z0;apply decide_eq_true;rcases zwb q2 with rfl | rfl | rfl | rfl | rfl | rfl | rfl<;>simp[s7]at e0 e1 e2<;>omega
 ·intro h;have hr:r=8232:=by have:=of_decide_eq_true h; omega
  subst hr;obtain rfl:b0=226:=qpa (e0.trans (by decide));obtain rfl:b1=128:=qpa (e1.trans (by decide));obtain rfl:b2=168:=qpa (e2.trans (by decide));exact⟨6,by decide,by decide,by decide⟩
theorem jsc{r:Int}{b0 b1 b2 b3:UInt8}(h0:65536≤r)(h1:r≤1114111)(e0:((b0.toNat:Nat):Int)=240+r / 262144):(∃k,atS [b0,b1,b2,b3] k)↔ln7 r=true:=by
 constructor
 ·rintro⟨k,q1,q2,q3⟩;have z0:s7.getD (k-3) 0=b0:=q3 3 (by simp);subst z0;exfalso;rcases zwb q2 with rfl | rfl | rfl | rfl | rfl | rfl | rfl<;>simp[s7]at e0<;>omega
 ·intro h;have:=of_decide_eq_true h;omega
theorem jkg{w:World}{r:Int}(h:C.OkR r):Calls Tryz.prog 71 #[.string (tx [10,13,194,133,226,128,168]),.int .i32 r] w fun e w'=>∃v:Int,e=.returned (iV v)∧decide (0≤v)=ln7 r∧Below w.heap.size w w':=by
 by_cases h128:r<128
 ·have h0:0≤r:=by unfold C.OkR at h; omega
  refine(Tryz.strings_IndexRune_ascii (tx [10,13,194,133,226,128,168]) r w h0 h128).mono ?_;rintro e w' ⟨rfl,rfl⟩;have:=C.ix7 r.toNat (by omega);rw[Int.toNat_of_nonneg h0]at this;exact⟨_,rfl,this,Below.refl _ _⟩
 ·by_cases he:r=65533
  ·subst he;refine(C.irune_err7 w).mono ?_;rintro e w' ⟨rfl,hb⟩;exact⟨_,rfl,by decide,hb⟩
  ·have hv:=h.valid;unfold C.OkR at h;by_cases h2:r≤2047
   ·exact qwa (by simp) (by simp) (by omega) he hv (zgi hv (by unfold Lib.encodeRune; rw[Lib.encodeRuneZ_two (by omega) h2]; rfl)) (jsa (by omega) h2 (qbe (x:=192+r / 64) (by omega) (by omega)) (qbe (x:=128+r%64) (by omega) (by omega)))
   ·by_cases h3:r≤65535
    ·exact qwa (by simp) (by simp) (by omega) he hv (zgi hv (by unfold Lib.encodeRune; rw[Lib.encodeRuneZ_three (by omega)]; rfl)) (jsb (by omega) h3 (qbe (x:=224+r / 4096) (by omega) (by omega)) (qbe (x:=128+r / 64%64) (by omega) (by omega)) (qbe (x:=128+r%64) (by omega) (by omega)))
    ·exact qwa (by simp) (by simp) (by omega) he hv (zgi hv (by unfold Lib.encodeRune; rw[Lib.encodeRuneZ_four (by omega) (by omega)]; rfl)) (jsc (by omega) (by omega) (qbe (x:=240+r / 262144) (by omega) (by omega)))
def lnX(l:List UInt8):Nat:=C.lnN l.length l
theorem zmh{w:World}{l:List UInt8}(hl:l.length<4294967281):Calls Tryz.prog 51 #[.string (tx l),.string (tx [10,13,194,133,226,128,168])] w fun e w'=>(∃v:Int,e=.returned (iV v)∧(v=((lnX l:Nat):Int)∧lnX l<l.length∨v=-1∧lnX l=l.length))∧Below w.heap.size w w':=by
 have:=C.iany7 (tx l) (fun r w h=>jkg h) w (by rw[xb]; exact hl)
 rwa [xb,xl]at this
theorem jkh{w:World}{l:List UInt8}(hl:l.length<4294967281)(h:decide (lnX l<l.length)=true):Calls Tryz.prog 51 #[.string (tx l),.string (tx [10,13,194,133,226,128,168])] w fun e w'=>e=.returned (iV ((lnX l:Nat):Int))∧Below w.heap.size w w':=(zmh hl).mono fun e w' h1=>by
 obtain⟨⟨v,rfl,h2 | h2⟩,hb⟩:=h1
 ·exact⟨by rw[h2.1],hb⟩
 ·exact absurd (of_decide_eq_true h) (by omega)
theorem jki{w:World}{l:List UInt8}(hl:l.length<4294967281)(h:decide (lnX l<l.length)=false):Calls Tryz.prog 51 #[.string (tx l),.string (tx [10,13,194,133,226,128,168])] w fun e w'=>e=.returned (iV (-1))∧lnX l=l.length∧Below w.heap.size w w':=(zmh hl).mono fun e w' h1=>by
 obtain⟨⟨v,rfl,h2 | h2⟩,hb⟩:=h1
 ·exact absurd h2.2 (of_decide_eq_false h)
 ·exact⟨by rw[h2.1],h2.2,hb⟩
theorem RdH_is1_3: Is1 Tryz.prog 3:=⟨⟨_,Tryz.underlying3,rfl⟩,by kernel_rfl⟩
theorem RdH_fld_50_1: FieldAt Tryz.prog 50 1 1:=⟨_,_,Tryz.underlying50,rfl,rfl,by kernel_rfl⟩
theorem qwb{w0 w:World}{g p:Nat}{lg:Bool}{L:List UInt8}{T:List Ck}(hp:p≤L.length)(hl:L.length≤1000000000)(hM0:Mg w0 w (.obj g (rC L p lg)::T)):Calls Tryz.prog 31 #[pA g 0] w fun e w'=>e=.returned (.tuple #[])∧Mg w0 w' (.obj g (rC L (p+lnX (L.drop p)) lg)::T):=by
 have M:Mg w0 w (.obj g (rC L p lg)::T):=hM0;refine qn (l:=[(0,pA g 0)]) Tryz.func31 rfl Tryz.ntmps31 rfl rfl ?_;intro Q hret hnorm hP a A;refine wsk fun K1 hK1=>wrl (sdm A λa A=>?_);refine sct A (ef rfl rfl) (xm (p:=p) (L:=L) (T:=(T)) (by omega) M) ?_;rintro _ w3 ⟨rfl,hM2⟩;replace M:Mg w0 w3 (.obj g (rC L p lg)::T):=hM2;refine⟨_,rfl,?_⟩;intro a A;rcases tf (decide (lnX (L.drop p)<(L.drop p).length))with hb5 | hb5
 ·have hb5':=of_decide_eq_true hb5;refine sct A (ef rfl rfl) (jkh (l:=L.drop p) (by rw[List.length_drop]; omega) hb5) ?_;rintro _ w7 ⟨rfl,hb6⟩;have hlx:=of_decide_eq_true hb5;rw[List.length_drop]at hlx;replace M:=M.call hb6;refine⟨_,rfl,?_⟩;intro a A;refine sda A λa A=>?_;refine qa (hK1 _ _ (wsk fun K8 hK8=>wsk fun K9 hK9=>wrl (sdm A λa A=>?_)));refine sdo (v:=bV false) A (qe rfl rfl (fun w=>(zr w).trans (by rw[show(decide (((lnX (L.drop p):Nat):Int)<0))=false from(decide_eq_false (by omega))]))) λa A=>?_;refine qa (hK9 _ _ (cf A ?_));refine wp_skip (hK8 _ _ (wrl (sdm A λa A=>?_)));refine sdo A (ja rfl) λa A=>?_;refine sdo (v:=pA g 1) A (qb RdH_fld_50_1 rfl rfl) λa A=>?_;refine sdo A (qw M RdH_is1_3 rfl 0 rfl rfl) λa A=>?_;refine sdm A λa A=>?_;refine sdo (v:=iV (((p+lnX (L.drop p):Nat):Int))) A (qe rfl rfl (ar_add ((in_i64 (by omega) (by omega)).trans (by omega)))) λa A=>?_;refine sdo A (ja rfl) λa A=>?_;refine sdo (v:=pA g 1) A (qb RdH_fld_50_1 rfl rfl) λa A=>?_;refine za (L':=(.obj g (rC L (p+lnX (L.drop p)) lg)::T)) A M rfl rfl (qp rfl rfl rfl (by kernel_rfl) M 0 rfl rfl rfl) 0 rfl rfl rfl ?_;intro w10 M;refine qa (hnorm _ _ (qac (v:=.tuple #[]) A rfl .nil rfl ?_));exact⟨rfl,M⟩
 ·have hb5':=of_decide_eq_false hb5;refine sct A (ef rfl rfl) (jki (l:=L.drop p) (by rw[List.length_drop]; omega) hb5) ?_;rintro _ w12 ⟨rfl,hlx,hb11⟩;have hdl:(L.drop p).length=L.length-p:=List.length_drop;replace M:=M.call hb11;refine⟨_,rfl,?_⟩;intro a A;refine sda A λa A=>?_;refine qa (hK1 _ _ (wsk fun K13 hK13=>wsk fun K14 hK14=>wrl (sdm A λa A=>?_)));refine sdo (v:=bV true) A (qe rfl rfl (fun w=>(zr w).trans (by rw[show(decide ((-1)<0))=true from rfl]))) λa A=>?_;refine qa (hK14 _ _ (ct A ?_));refine wrl (sdm A λa A=>?_);refine sct A (ef rfl rfl) (xm (p:=p) (L:=L) (T:=(T)) (by omega) M) ?_;rintro _ w16 ⟨rfl,hM15⟩;replace M:Mg w0 w16 (.obj g (rC L p lg)::T):=hM15;refine⟨_,rfl,?_⟩;intro a A;refine sdo (v:=iV ((((L.drop p).length:Nat):Int))) A (xx (s:=L.drop p) Tryz.underlying9 rfl) λa A=>?_;refine sda A λa A=>?_;refine qa (hK13 _ _ (wrl (sdm A λa A=>?_)));refine sdo A (ja rfl) λa A=>?_;refine sdo (v:=pA g 1) A (qb RdH_fld_50_1 rfl rfl) λa A=>?_;refine sdo A (qw M RdH_is1_3 rfl 0 rfl rfl) λa A=>?_;refine sdm A λa A=>?_;refine sdo (v:=iV (((p+(L.drop p).length:Nat):Int))) A (qe rfl rfl (ar_add ((in_i64 (by omega) (by omega)).trans (by omega)))) λa A=>?_;refine sdo A (ja rfl) λa A=>?_;refine sdo (v:=pA g 1) A (qb RdH_fld_50_1 rfl rfl) λa A=>?_;refine za (L':=(.obj g (rC L (p+(L.drop p).length) lg)::T)) A M rfl rfl (qp rfl rfl rfl (by kernel_rfl) M 0 rfl rfl rfl) 0 rfl rfl rfl ?_;intro w17 M;refine qa (hnorm _ _ (qac (v:=.tuple #[]) A rfl .nil rfl ?_));rw[←hlx]at M;exact⟨rfl,M⟩
end Go.Proofs.YtjhkejihhpnooaaGreatDoor.G
namespace Go.Proofs
open Go.Shelf
def Tryz.laysC245_ren: Go.Shelf.Ren:=⟨fun | 245=>139 | 279=>158 | 280=>159 | 281=>160 | 282=>161 | 316=>123 | 171=>179 | 205=>178 | 243=>191 | 246=>196 | 283=>197 | 284=>198 | 285=>199 | 286=>200 | 129=>202 | 317=>201 | 318=>203 | 319=>204 | 320=>205 | 337=>206 | 338=>207 | n=>n,fun | 9=>9 | 3=>3 | 75=>85 | 167=>168 | 4=>4 | 168=>170 | 210=>182 | 37=>27 | 0=>0 | 127=>114 | 145=>195 | 143=>193 | 2=>2 | 171=>200 | 53=>94 | 5=>5 | 173=>203 | 212=>206 | 51=>99 | 20=>20 | 213=>207 | 46=>71 | 232=>209 | 233=>210 | 80=>51 | n=>n,fun | 15=>3 | 16=>4 | 17=>6 | 18=>7 | 19=>8 | n=>n⟩
theorem Tryz.laysC245: Go.Proofs.LaysC.n245 Tryz.prog Tryz.laysC245_ren:={
  mixed:=by kernel_rfl
  f129:=Tryz.func202.trans (congrArg some (by kernel_rfl))
  f171:=Tryz.func179.trans (congrArg some (by kernel_rfl))
  f205:=Tryz.func178.trans (congrArg some (by kernel_rfl))
  f243:=Tryz.func191.trans (congrArg some (by kernel_rfl))
  f245:=Tryz.func139.trans (congrArg some (by kernel_rfl))
  f246:=Tryz.func196.trans (congrArg some (by kernel_rfl))
  f279:=Tryz.func158.trans (congrArg some (by kernel_rfl))
  f280:=Tryz.func159.trans (congrArg some (by kernel_rfl))
  f281:=Tryz.func160.trans (congrArg some (by kernel_rfl))
  f282:=Tryz.func161.trans (congrArg some (by kernel_rfl))
  f283:=Tryz.func197.trans (congrArg some (by kernel_rfl))
  f284:=Tryz.func198.trans (congrArg some (by kernel_rfl))
  f285:=Tryz.func199.trans (congrArg some (by kernel_rfl))
  f286:=Tryz.func200.trans (congrArg some (by kernel_rfl))
  f316:=Tryz.func123.trans (congrArg some (by kernel_rfl))
  f317:=Tryz.func201.trans (congrArg some (by kernel_rfl))
  f318:=Tryz.func203.trans (congrArg some (by kernel_rfl))
  f319:=Tryz.func204.trans (congrArg some (by kernel_rfl))
  f320:=Tryz.func205.trans (congrArg some (by kernel_rfl))
  f337:=Tryz.func206.trans (congrArg some (by kernel_rfl))
  f338:=Tryz.func207.trans (congrArg some (by kernel_rfl))
  t0:=Tryz.underlying0
  a0:=Tryz.isAgg0
  z0:=Tryz.sizeOf0
  v0:=Tryz.zeroValue0
  t2:=Tryz.underlying2
  a2:=Tryz.isAgg2
  z2:=Tryz.sizeOf2
  v2:=Tryz.zeroValue2
  t3:=Tryz.underlying3
  a3:=Tryz.isAgg3
  z3:=Tryz.sizeOf3
  v3:=Tryz.zeroValue3
  t4:=Tryz.underlying4
  a4:=Tryz.isAgg4
  z4:=Tryz.sizeOf4
  v4:=Tryz.zeroValue4
  t5:=Tryz.underlying5
  a5:=Tryz.isAgg5
  z5:=Tryz.sizeOf5
  v5:=Tryz.zeroValue5
  t9:=Tryz.underlying9
  a9:=Tryz.isAgg9
  z9:=Tryz.sizeOf9
  v9:=Tryz.zeroValue9
  t20:=Tryz.underlying20
  a20:=Tryz.isAgg20
  z20:=Tryz.sizeOf20
  v20:=Tryz.zeroValue20
  t37:=Tryz.underlying27
  a37:=Tryz.isAgg27
  z37:=Tryz.sizeOf27
  v37:=Tryz.zeroValue27
  t46:=Tryz.underlying71
  a46:=Tryz.isAgg71
  z46:=Tryz.sizeOf71
  v46:=Tryz.zeroValue71
  t51:=Tryz.underlying99
  a51:=Tryz.isAgg99
  z51:=Tryz.sizeOf99
  v51:=Tryz.zeroValue99
  t53:=Tryz.underlying94
  a53:=Tryz.isAgg94
  z53:=Tryz.sizeOf94
  v53:=Tryz.zeroValue94
  t75:=Tryz.underlying85
  a75:=Tryz.isAgg85
  z75:=Tryz.sizeOf85
  v75:=Tryz.zeroValue85
  t127:=Tryz.underlying114
  a127:=Tryz.isAgg114
  z127:=Tryz.sizeOf114
  v127:=Tryz.zeroValue114
  t143:=Tryz.underlying193
  a143:=Tryz.isAgg193
  z143:=Tryz.sizeOf193
  v143:=Tryz.zeroValue193
  t145:=Tryz.underlying195
  a145:=Tryz.isAgg195
  z145:=Tryz.sizeOf195
  v145:=Tryz.zeroValue195
  t167:=Tryz.underlying168
  a167:=Tryz.isAgg168
  z167:=Tryz.sizeOf168
  v167:=Tryz.zeroValue168
  t168:=Tryz.underlying170
  a168:=Tryz.isAgg170
  z168:=Tryz.sizeOf170
  v168:=Tryz.zeroValue170
  t171:=Tryz.underlying200
  a171:=Tryz.isAgg200
  z171:=Tryz.sizeOf200
  v171:=Tryz.zeroValue200
  t173:=Tryz.underlying203
  a173:=Tryz.isAgg203
  z173:=Tryz.sizeOf203
  v173:=Tryz.zeroValue203
  t210:=Tryz.underlying182
  a210:=Tryz.isAgg182
  z210:=Tryz.sizeOf182
  v210:=Tryz.zeroValue182
  t212:=Tryz.underlying206
  a212:=Tryz.isAgg206
  z212:=Tryz.sizeOf206
  v212:=Tryz.zeroValue206
  t213:=Tryz.underlying207
  a213:=Tryz.isAgg207
  z213:=Tryz.sizeOf207
  t232:=Tryz.underlying209
  a232:=Tryz.isAgg209
  z232:=Tryz.sizeOf209
  v232:=Tryz.zeroValue209
  t233:=Tryz.underlying210
  a233:=Tryz.isAgg210
  z233:=Tryz.sizeOf210
  v233:=Tryz.zeroValue210
  g15:=by kernel_rfl
  g16:=by kernel_rfl
  g17:=by kernel_rfl
  g18:=by kernel_rfl
  g19:=by kernel_rfl
  t80:=Tryz.underlying51
  a80:=Tryz.isAgg51
  z80:=Tryz.sizeOf51
  v80:=Tryz.zeroValue51
  i0:=by kernel_rfl
  i2:=by kernel_rfl
  i3:=by kernel_rfl
  i4:=by kernel_rfl
  i5:=by kernel_rfl
  i9:=by kernel_rfl
  i20:=by kernel_rfl
  i37:=by kernel_rfl
  i46:=by kernel_rfl
  i51:=by kernel_rfl
  i53:=by kernel_rfl
  i75:=by kernel_rfl
  i80:=by kernel_rfl
  i127:=by kernel_rfl
  i143:=by kernel_rfl
  i145:=by kernel_rfl
  i167:=by kernel_rfl
  i168:=by kernel_rfl
  i171:=by kernel_rfl
  i173:=by kernel_rfl
  i210:=by kernel_rfl
  i212:=by kernel_rfl
  i232:=by kernel_rfl
  i233:=by kernel_rfl
  m15:=by kernel_rfl
  m16:=by kernel_rfl
  m17:=by kernel_rfl
  m18:=by kernel_rfl
  m19:=by kernel_rfl
  c0:=by kernel_rfl
  c2:=by kernel_rfl
  c3:=by kernel_rfl
  c4:=by kernel_rfl
  c5:=by kernel_rfl
  c9:=by kernel_rfl
  c20:=by kernel_rfl
  c37:=by kernel_rfl
  c46:=by kernel_rfl
  c51:=by kernel_rfl
  c53:=by kernel_rfl
  c75:=by kernel_rfl
  c80:=by kernel_rfl
  c127:=by kernel_rfl
  c143:=by kernel_rfl
  c145:=by kernel_rfl
  c167:=by kernel_rfl
  c168:=by kernel_rfl
  c171:=by kernel_rfl
  c173:=by kernel_rfl
  c210:=by kernel_rfl
  c212:=by kernel_rfl
  c213:=by kernel_rfl
  c232:=by kernel_rfl
  c233:=by kernel_rfl }
open Go.RowKit in
theorem Tryz.strconv_toError_syntax(fn s:ByteArray)(base bits:Int)(ev:Value)(w:World)(hlim:s.size≤281474976710656)(hv:w.cell? ⟨3,0,none⟩=some ev)(hev:ev=.nilIface∨∃te pe,ev=.iface te pe):
    Calls Tryz.prog 139 #[.string fn,.string s,.int .i64 base,.int .i64 bits,.iface 168 (.int .i64 2)] w fun e w'=>∃N,e=.returned (.iface 170 (.pointer (some ⟨N,0,none⟩)))∧w.heap.size≤N∧w'.heap[N]?=some (.cells #[.string fn,.string s,ev] 182 (0,0))∧Below w.heap.size w w':=Any.strconv_toError_syntax Tryz.laysC245 fn s base bits ev w hlim hv hev
def Tryz.lays321_ren: Go.Shelf.Ren:=⟨fun | 321=>156 | n=>n,fun | 5=>5 | n=>n,fun | n=>n⟩
theorem Tryz.lays321: Go.Proofs.Lays.n321 Tryz.prog Tryz.lays321_ren:={
  mixed:=by kernel_rfl
  f321:=Tryz.func156.trans (congrArg some (by kernel_rfl))
  t5:=Tryz.underlying5
  a5:=Tryz.isAgg5
  z5:=Tryz.sizeOf5
  v5:=Tryz.zeroValue5 }
open Go.RowKit in
theorem Tryz.internal_strconv_lower(c:Int)(w:World):
    Calls Tryz.prog 156 #[.int .u8 c] w fun e w'=>e=.returned (.int .u8 (bits .or .u8 c 32))∧w'=w:=Any.internal_strconv_lower Tryz.lays321 c w
open Go.RowKit in
theorem Tryz.strconv_toError_range(fn s:ByteArray)(base bits:Int)(ev:Value)(w:World)(hlim:s.size≤281474976710656)(hv:w.cell? ⟨4,0,none⟩=some ev)(hev:ev=.nilIface∨∃te pe,ev=.iface te pe):
    Calls Tryz.prog 139 #[.string fn,.string s,.int .i64 base,.int .i64 bits,.iface 168 (.int .i64 1)] w fun e w'=>∃N,e=.returned (.iface 170 (.pointer (some ⟨N,0,none⟩)))∧w.heap.size≤N∧w'.heap[N]?=some (.cells #[.string fn,.string s,ev] 182 (0,0))∧Below w.heap.size w w':=Any.strconv_toError_range Tryz.laysC245 fn s base bits ev w hlim hv hev
end Go.Proofs
namespace Go.Proofs.YtjhkejihhpnooaaGreatDoor.C
open Go.RowKit

def zwc(c:UInt8):Bool:=decide (48≤c.toNat∧c.toNat≤57∨97≤c.toNat∧c.toNat≤102∨65≤c.toNat∧c.toNat≤70)
def hxv(c:UInt8):Nat:=if c.toNat≤57 then c.toNat-48 else if 97≤c.toNat then c.toNat-87 else c.toNat-55
def puN: Nat→List UInt8→Option Nat
  | n, [] => some n
  | n, c :: t => if zwc c = true then (if 4294967295 < n * 16 + hxv c then none else puN (n * 16 + hxv c) t) else none
theorem jei: ∀c:Fin 256,((65≤c.val∧c.val≤70)→bits .or .u8 ((c.val:Nat):Int) 32=((c.val:Nat):Int)+32)∧((97≤c.val∧c.val≤102)→bits .or .u8 ((c.val:Nat):Int) 32=((c.val:Nat):Int))∧(¬(48≤c.val∧c.val≤57∨97≤c.val∧c.val≤102∨65≤c.val∧c.val≤70)→bits .or .u8 ((c.val:Nat):Int) 32<97∨(103≤bits .or .u8 ((c.val:Nat):Int) 32∧bits .or .u8 ((c.val:Nat):Int) 32≤122)∨122<bits .or .u8 ((c.val:Nat):Int) 32):=by decide +kernel
theorem zwd{n:Nat}{c:UInt8}{t:List UInt8}(h:zwc c=true)(h2:¬4294967295<n*16+hxv c):puN n (c::t)=puN (n*16+hxv c) t:=by rw[puN,if_pos h,if_neg h2]
theorem zmi{n:Nat}{c:UInt8}{t:List UInt8}(h:zwc c=true)(h2:4294967295<n*16+hxv c):puN n (c::t)=none:=by rw[puN,if_pos h,if_pos h2]
theorem jpb{n:Nat}{c:UInt8}{t:List UInt8}(h:zwc c=false):puN n (c::t)=none:=by rw[puN,if_neg (by rw[h]; decide)]
def PuA(r:Option Nat)(e:Ending):Prop:=(∃u:Nat,r=some u∧u≤4294967295∧e=.returned (.tuple #[.int .u64 ((u:Nat):Int),.nilIface]))∨(r=none∧∃v k:Int,(k=1∨k=2)∧e=.returned (.tuple #[.int .u64 v,.iface 168 (.int .i64 k)]))
set_option maxRecDepth 100000 in
theorem jpc(t:ByteArray)(hne:t.size≠0)(hmax:t.size≤9223372036854775806)(w:World):Calls Tryz.prog 138 #[.string t,.int .i64 16,.int .i64 32] w fun e w'=>PuA (puN 0 t.data.toList) e∧w'=Lib.bytesWorld w 5 t:=by
  have hemp:t.toList.isEmpty=false:=by
    rw[←decide_eq_emptyBytes];exact decide_eq_false (fun h=>hne (by rw[h]; rfl))
  have hcv:=Lib.run_convert_string_bytes (P:=Tryz.prog) w 9 27 5 t (u:=.string) Tryz.underlying9 Tryz.underlying27 Tryz.underlying5;have hB:∀j,j<t.size→(Lib.bytesWorld w 5 t).cell? ⟨w.heap.size,j,none⟩=some (.int .u8 (t.data.toList.getD j 0).toNat):=fun j hj=>Lib.bytesWorld_cell w 5 t j hj;obtain⟨W1,hW1⟩:∃W1,W1=Lib.bytesWorld w 5 t:=⟨_,rfl⟩;rw[←hW1]at hcv hB ⊢;clear hW1;obtain⟨bs,hL⟩:∃bs,bs=t.data.toList:=⟨_,rfl⟩;have hLn:bs.length=t.size:=by rw[hL,Lib.size_eq]
  rw[←hL]at hB ⊢;clear hL;have hmv:IntKind.u64.wrap (IntKind.u64.wrap 4294967296-1)=4294967295:=by
    rw[IntKind.wrap_u64,IntKind.wrap_u64];decide
  go_enter Tryz.func138,Tryz.ntmps138
  go_wp2
  go_loop [12,13,101] (fun vu vn vi=>∃(k acc:Nat) (a:Int),vu=.bool false∧vn=.int .u64 a∧vi=.int .i64 k∧k≤t.size∧Hid (a=(acc:Int)∧acc≤4294967295∧puN 0 bs=puN acc (bs.drop k)))
    (fun _ _ vi=>t.size-(intOf vi).toNat)
  case atStart=>exact⟨0,0,0,rfl,rfl,rfl,by omega,rfl,by omega,rfl⟩
  case round=>
    obtain⟨k,acc,a,rfl,rfl,rfl,hk,hh⟩:=hrel;obtain⟨ha,hacc,hdec⟩:=hh.out;clear hh;have a0:0≤a:=(by omega);have a1:a≤4294967295:=(by omega);by_cases hkn:k<t.size
    · have hc:=hB k hkn;have hdrop:bs.drop k=bs[k]'(by omega)::bs.drop (k+1):=List.drop_eq_getElem_cons (by omega);have hget:bs.getD k 0=bs[k]'(by omega):=(by simp[List.getD,List.getElem?_eq_getElem (show k<bs.length by omega)]);rw[hdrop]at hdec;rw[hget]at hc;generalize bs[k]'(by omega)=c at hc hdec;have hc256:c.toNat<256:=c.toNat_lt;obtain⟨lw1,lw2,lw3⟩:=jei ⟨c.toNat,hc256⟩;dsimp only at lw1 lw2 lw3;clear hB hdrop hget;cases hhx:zwc c
      · have hno:=of_decide_eq_false hhx;rw[jpb hhx]at hdec;have hl3:=lw3 hno;have hdg:¬(48≤c.toNat∧c.toNat≤57):=fun h=>hno (.inl h);have HD:Aside (puN 0 bs=none):=hdec;clear lw1 lw2 lw3 hno hhx hacc ha hdec;have HL:Aside (∀(w:World),Calls Tryz.prog 156 #[.int .u8 ((c.toNat:Nat):Int)] w fun e w'=>e=.returned (.int .u8 (bits .or .u8 ((c.toNat:Nat):Int) 32))∧w'=w):=fun w=>Tryz.internal_strconv_lower _ w;generalize bits .or .u8 ((c.toNat:Nat):Int) 32=x at hl3 HL;have h95:((((c.toNat:Nat):Int))==95)=true∨((((c.toNat:Nat):Int))==95)=false:=by cases ((((c.toNat:Nat):Int))==95)<;>simp
        rcases hl3 with h | h | h;all_goals (rcases h95 with h95 | h95)
        all_goals go_wp2_with (go_at_call 156; refine(HL.out _).mono ?_; rintro e w' ⟨rfl,rfl⟩)
        all_goals go_ret2
        all_goals exact⟨.inr ⟨HD.out,_,_,.inr rfl,rfl⟩,rfl⟩
      · have hyes:=of_decide_eq_true hhx;by_cases hdig:48≤c.toNat∧c.toNat≤57
        · obtain⟨hd0,hd1⟩:=hdig;have hv:hxv c=c.toNat-48:=(by unfold hxv; rw[if_pos hd1]);by_cases hov:4294967295<acc*16+hxv c
          · rw[zmi hhx hov]at hdec;have HD:Aside (puN 0 bs=none):=hdec;have iov:4294967295<a*16+((c.toNat:Int)-48):=(by omega);clear lw1 lw2 lw3 hyes hhx hdec hov hv ha hacc
            go_wp2
            go_ret2
            exact⟨.inr ⟨HD.out,_,_,.inl rfl,rfl⟩,rfl⟩
          · rw[zwd hhx hov]at hdec;have HN:Hid (a*16+((c.toNat:Int)-48)=((acc*16+hxv c:Nat):Int)∧acc*16+hxv c≤4294967295∧puN 0 bs=puN (acc*16+hxv c) (bs.drop (k+1))):=Lib.hid ⟨by omega,by omega,hdec⟩;have iov:a*16+((c.toNat:Int)-48)≤4294967295:=(by omega);clear lw1 lw2 lw3 hyes hhx hdec hov hv ha hacc
            go_wp2
            exact⟨⟨k+1,acc*16+hxv c,a*16+((c.toNat:Int)-48),rfl,(by first | rfl | (congr 1; omega)),(by first | rfl | (congr 1; omega)),by omega,HN⟩,by simp[intOf]; omega⟩
        · have hx:∃x:Int,bits .or .u8 ((c.toNat:Nat):Int) 32=x∧97≤x∧x≤102∧((hxv c:Nat):Int)=x-97+10:=by
            unfold hxv;by_cases h97:97≤c.toNat
            · exact⟨_,lw2 (by omega),by omega,by omega,by rw[if_neg (by omega),if_pos h97]; omega⟩
            · exact⟨_,lw1 (by omega),by omega,by omega,by rw[if_neg (by omega),if_neg h97]; omega⟩
          obtain⟨x,ex,x0,x1,hv⟩:=hx;have HL:Aside (∀(w:World),Calls Tryz.prog 156 #[.int .u8 ((c.toNat:Nat):Int)] w fun e w'=>e=.returned (.int .u8 x)∧w'=w):=fun w=>ex▸Tryz.internal_strconv_lower _ w;have h95:((((c.toNat:Nat):Int))==95)=false:=beq_eq_false_iff_ne.2 (by omega);have hg0:(48:Int)≤((c.toNat:Nat):Int):=(by omega);have hg1:¬(((c.toNat:Nat):Int)≤57):=(by omega);clear hdig;by_cases hov:4294967295<acc*16+hxv c
          · rw[zmi hhx hov]at hdec;have HD:Aside (puN 0 bs=none):=hdec;have iov:4294967295<a*16+(x-97+10):=(by omega);clear lw1 lw2 lw3 hyes hhx hdec hov hv ha hacc ex
            go_wp2_with (go_at_call 156; refine(HL.out _).mono ?_; rintro e w' ⟨rfl,rfl⟩)
            go_ret2
            exact⟨.inr ⟨HD.out,_,_,.inl rfl,rfl⟩,rfl⟩
          · rw[zwd hhx hov]at hdec;have HN:Hid (a*16+(x-97+10)=((acc*16+hxv c:Nat):Int)∧acc*16+hxv c≤4294967295∧puN 0 bs=puN (acc*16+hxv c) (bs.drop (k+1))):=Lib.hid ⟨by omega,by omega,hdec⟩;have iov:a*16+(x-97+10)≤4294967295:=(by omega);clear lw1 lw2 lw3 hyes hhx hdec hov hv ha hacc ex
            go_wp2_with (go_at_call 156; refine(HL.out _).mono ?_; rintro e w' ⟨rfl,rfl⟩)
            exact⟨⟨k+1,acc*16+hxv c,a*16+(x-97+10),rfl,(by first | rfl | (congr 1; omega)),(by first | rfl | (congr 1; omega)),by omega,HN⟩,by simp[intOf]; omega⟩
    · have hkk:k=t.size:=(by omega);subst hkk;have hF:puN acc (bs.drop t.size)=some acc:=(by rw[List.drop_eq_nil_of_le (by omega)]; rfl);rw[hF]at hdec;subst ha;have HD:Aside (puN 0 bs=some acc∧acc≤4294967295):=⟨hdec,hacc⟩;clear hacc hF a0 a1 hdec
      go_wp2
      go_ret2
      exact⟨.inl ⟨acc,HD.out.1,HD.out.2,rfl⟩,rfl⟩
def Er(w:World):Prop:=(∃ev:Value,w.cell? ⟨Tryz.laysC245_ren.g 15,0,none⟩=some ev∧(ev=.nilIface∨∃te pe,ev=.iface te pe))∧(∃ev:Value,w.cell? ⟨Tryz.laysC245_ren.g 16,0,none⟩=some ev∧(ev=.nilIface∨∃te pe,ev=.iface te pe))
theorem Er.below{w w':World}(h:Er w)(hb:Below w.heap.size w w'):Er w':=by
  obtain⟨⟨v,h1,h2⟩,⟨u,h3,h4⟩⟩:=h;exact⟨⟨v,(hb.cell (show(⟨_,0,none⟩:Addr).block<w.heap.size from Lib.lt_of_cell h1)).trans h1,h2⟩,⟨u,(hb.cell (show(⟨_,0,none⟩:Addr).block<w.heap.size from Lib.lt_of_cell h3)).trans h3,h4⟩⟩
def puX(l:List UInt8):Option Nat:=if l.isEmpty=true then none else puN 0 l
def PuB(r:Option Nat)(e:Ending):Prop:=(∃u:Nat,r=some u∧u≤4294967295∧e=.returned (.tuple #[.int .u64 ((u:Nat):Int),.nilIface]))∨(r=none∧∃(v:Int) (ty:TypeId) (p:Value),e=.returned (.tuple #[.int .u64 v,.iface ty p]))
set_option maxRecDepth 100000 in
theorem jej(t:ByteArray)(h0:t.size=0)(w:World):Calls Tryz.prog 138 #[.string t,.int .i64 16,.int .i64 32] w fun e w'=>e=.returned (.tuple #[.int .u64 0,.iface 168 (.int .i64 2)])∧w'=w:=by
  have hemp:t.toList.isEmpty=true:=by rw[Lib.toList_data,show t.data.toList=[]from List.length_eq_zero_iff.1 (by rw[←Lib.size_eq]; exact h0)]; rfl
  go_enter Tryz.func138,Tryz.ntmps138
  go_wp2
  go_ret2
  exact⟨rfl,rfl⟩
theorem jkj(t:ByteArray)(hmax:t.size≤281474976710656)(w:World):Calls Tryz.prog 138 #[.string t,.int .i64 16,.int .i64 32] w fun e w'=>PuA (puX t.data.toList) e∧Below w.heap.size w w':=by
  by_cases h0:t.size=0
  · refine(jej t h0 w).mono ?_;rintro e w' ⟨rfl,rfl⟩;exact⟨.inr ⟨by unfold puX; rw[if_pos (by rw[List.isEmpty_iff,←List.length_eq_zero_iff,←Lib.size_eq]; exact h0)],_,_,.inr rfl,rfl⟩,Below.refl _ _⟩
  · refine(jpc t h0 (by omega) w).mono ?_;rintro e w' ⟨h1,rfl⟩;exact⟨by unfold puX; rw[if_neg (by rw[List.isEmpty_iff,←List.length_eq_zero_iff,←Lib.size_eq]; exact h0)]; exact h1,Lib.bytesWorld_below _ _ _⟩
set_option maxRecDepth 100000 in
theorem pu_any(t:ByteArray)(hlim:t.size≤281474976710656)(w:World)(hE:Er w):Calls Tryz.prog 117 #[.string t,.int .i64 16,.int .i64 32] w fun e w'=>PuB (puX t.data.toList) e∧Below w.heap.size w w':=by
  have HI:Hid _:=jkj t hlim w;have HE:Aside (Er w):=hE;clear hE
  go_enter Tryz.func117,Tryz.ntmps117
  go_wp2_with (go_at_call 138; refine Calls.mono HI.out ?_)
  rintro e W1 hA hb1;obtain⟨⟨v1,e1,e2⟩,⟨v2,e3,e4⟩⟩:=HE.out.below hb1;rcases hA with⟨u,hr,hu,rfl⟩ | ⟨hr,v,k,rfl | rfl,rfl⟩
  · have HR:Aside (puX t.data.toList=some u∧u≤4294967295):=⟨hr,hu⟩;clear hr hu e1 e2 e3 e4
    go_wp2
    go_ret2
    exact⟨.inl ⟨u,HR.out.1,HR.out.2,rfl⟩,hb1⟩
  · have HR:Aside (puX t.data.toList=none):=hr;have HT:Hid _:=Tryz.strconv_toError_range ⟨#[80,97,114,115,101,85,105,110,116]⟩ t 16 32 v2 W1 hlim e3 e4;clear hr e1 e2 e3 e4
    go_wp2_with (go_at_call 139; refine Calls.mono HT.out ?_; rintro e W2 ⟨N,rfl,h1,h2,h3⟩; clear h2)
    go_ret2
    exact⟨.inr ⟨HR.out,_,_,_,rfl⟩,hb1.trans (h3.mono hb1.size)⟩
  · have HR:Aside (puX t.data.toList=none):=hr;have HT:Hid _:=Tryz.strconv_toError_syntax ⟨#[80,97,114,115,101,85,105,110,116]⟩ t 16 32 v1 W1 hlim e1 e2;clear hr e1 e2 e3 e4
    go_wp2_with (go_at_call 139; refine Calls.mono HT.out ?_; rintro e W2 ⟨N,rfl,h1,h2,h3⟩; clear h2)
    go_ret2
    exact⟨.inr ⟨HR.out,_,_,_,rfl⟩,hb1.trans (h3.mono hb1.size)⟩
end Go.Proofs.YtjhkejihhpnooaaGreatDoor.C
namespace Go.Proofs.YtjhkejihhpnooaaGreatDoor.G
open Go.RowKit

structure Nu where
  q:Q6
  o1:Option Addr
  c1:Nat
  o2:Option Addr
  c2:Nat
  o3:Option Addr
  c3:Nat
  o4:Option Addr
  c4:Nat
def Nu.nm(w:World)(y:Nu):Prop:=Nm w y.q y.o1 y.c1 y.o2 y.c2 y.o3 y.c3 y.o4 y.c4
theorem Nu.below{w w':World}{y:Nu}(h:y.nm w)(hb:Below w.heap.size w w'):y.nm w':=⟨h.s1.below hb,h.s2.below hb,h.s3.below hb,h.s4.below hb⟩
def Nu.val(y:Nu):Value:=qkc y.q y.o1 y.c1 y.o2 y.c2 y.o3 y.c3 y.o4 y.c4
theorem jw{P:Program}{w:World}{l:List (Nat×Value)}{dst:Option Tmp}{ty:TypeId}{pos:String}{after:Array Edge}{guard:Option (Nat×Bool)}{x:Operand}{a:Addr}(hx:ev l x=some (.pointer (some a))):Does P l ⟨dst,.nilCheck x,ty,pos,after,guard⟩ w (.pointer (some a)) w:=fun ρ h=>by
  simp only[execOp,h x _ hx,Sem.run_pure]
structure Nd where
  k:Int
  n:Int
  y:Nu
  s:ByteArray
  ro:Option Addr
  rc:Nat
  rl:List UInt8
  lo:Option Addr
  lc:Nat
inductive Dt where
  | mk (d : Nd) (ts : List Dt)
def Dt.d: Dt→Nd
  | .mk d _ => d
def Dt.ts: Dt→List Dt
  | .mk _ ts => ts
def Nd.cells(d:Nd)(m:Nat):List Value:=[.int .i64 d.k,.int .i64 d.n,.bool d.y.q.b1,.slice d.y.o1 d.y.q.t1.length d.y.c1,.slice d.y.o2 d.y.q.q1.length d.y.c2,.bool d.y.q.b2,.slice d.y.o3 d.y.q.t2.length d.y.c3,.slice d.y.o4 d.y.q.q2.length d.y.c4,.string d.s,.slice d.ro d.rl.length d.rc,.slice d.lo m d.lc]
def Dt.cells(t:Dt):List Value:=t.d.cells t.ts.length
inductive Tr where
  | mk (k n : Int) (q : Q6) (s : ByteArray) (rl : List UInt8) (ts : List Tr)
def Tr.k: Tr→Int
  | .mk k _ _ _ _ _ => k
def Tr.n: Tr→Int
  | .mk _ n _ _ _ _ => n
def Tr.q: Tr→Q6
  | .mk _ _ q _ _ _ => q
def Tr.s: Tr→ByteArray
  | .mk _ _ _ s _ _ => s
def Tr.rl: Tr→List UInt8
  | .mk _ _ _ _ r _ => r
def Tr.ts: Tr→List Tr
  | .mk _ _ _ _ _ ts => ts
mutual
def Dt.tr: Dt→Tr
  | .mk d ts => .mk d.k d.n d.y.q d.s d.rl (Dt.trs ts)
def Dt.trs: List Dt→List Tr
  | [] => []
  | t :: ts => t.tr :: Dt.trs ts
end
theorem Dt.trs_map: ∀ts:List Dt,Dt.trs ts=ts.map Dt.tr
  | [] => by simp [Dt.trs]
  | t :: ts => by simp [Dt.trs, Dt.trs_map ts]
mutual
theorem Dt.indT{P:Dt→Prop}(h:∀d ts,(∀t∈ts,P t)→P (.mk d ts)):∀t,P t
  | .mk d ts => h d ts (Dt.indL h ts)
theorem Dt.indL{P:Dt→Prop}(h:∀d ts,(∀t∈ts,P t)→P (.mk d ts)):∀ts:List Dt,∀t∈ts,P t
  | [], t, ht => by cases ht
  | u :: us, t, ht => by
    rcases List.mem_cons.1 ht with e | e
    · rw[e]; exact Dt.indT h u
    · exact Dt.indL h us t e
end
mutual
theorem Tr.indT{P:Tr→Prop}(h:∀k n q s rl ts,(∀t∈ts,P t)→P (.mk k n q s rl ts)):∀t,P t
  | .mk k n q s rl ts => h k n q s rl ts (Tr.indL h ts)
theorem Tr.indL{P:Tr→Prop}(h:∀k n q s rl ts,(∀t∈ts,P t)→P (.mk k n q s rl ts)):∀ts:List Tr,∀t∈ts,P t
  | [], t, ht => by cases ht
  | u :: us, t, ht => by
    rcases List.mem_cons.1 ht with e | e
    · rw[e]; exact Tr.indT h u
    · exact Tr.indL h us t e
end
def Here(w:World)(b o:Nat)(cs:List Value):Prop:=b<w.heap.size∧∀j v,cs[j]?=some v→w.cell? ⟨b,o+j,none⟩=some v
theorem Here.below{w w':World}{b o:Nat}{cs:List Value}(h:Here w b o cs)(hb:Below w.heap.size w w'):Here w' b o cs:=⟨Nat.lt_of_lt_of_le h.1 hb.size,fun j v hj=>(hb.cell h.1).trans (h.2 j v hj)⟩
def Rt(w:World)(lo:Option Addr)(ts:List Dt):Prop:=ts≠[]→∃b o,lo=some ⟨b,o,none⟩∧∀i t,ts[i]?=some t→Here w b (o+i*11) t.cells
theorem Rt.below{w w':World}{lo:Option Addr}{ts:List Dt}(h:Rt w lo ts)(hb:Below w.heap.size w w'):Rt w' lo ts:=fun hne=>by
  obtain⟨b,o,e,h2⟩:=h hne;exact⟨b,o,e,fun i t hi=>(h2 i t hi).below hb⟩
structure NdOk(w:World)(d:Nd):Prop where
  num:d.y.nm w
  len:LenQ d.y.q
  raw:Rb w d.ro d.rl
  rcap:d.rl.length≤d.rc
  rmax:d.rc≤9223372036854775807
  k0:-9223372036854775808≤d.k
  k1:d.k≤9223372036854775807
  n0:-9223372036854775808≤d.n
  n1:d.n≤9223372036854775807
  smax:d.s.size≤9223372036854775807
theorem NdOk.below{w w':World}{d:Nd}(h:NdOk w d)(hb:Below w.heap.size w w'):NdOk w' d:={ h with num:=Nu.below h.num hb,raw:=h.raw.below hb }
mutual
def Dt.rd(w:World):Dt→Prop
  | .mk d ts => NdOk w d ∧ ts.length ≤ d.lc ∧ d.lc ≤ 9223372036854775807 ∧ Rt w d.lo ts ∧ Dt.rds w ts
def Dt.rds(w:World):List Dt→Prop
  | [] => True
  | t :: ts => t.rd w ∧ Dt.rds w ts
end
theorem Dt.rds_iff{w:World}:∀{ts:List Dt},Dt.rds w ts↔∀t∈ts,t.rd w
  | [] => by simp [Dt.rds]
  | t :: ts => by simp [Dt.rds, Dt.rds_iff (ts := ts)]
theorem Dt.rd_iff{w:World}{d:Nd}{ts:List Dt}:(Dt.mk d ts).rd w↔NdOk w d∧ts.length≤d.lc∧d.lc≤9223372036854775807∧Rt w d.lo ts∧∀t∈ts,t.rd w:=by
  rw[←Dt.rds_iff]; unfold Dt.rd; exact Iff.rfl
theorem Dt.keep{w w':World}(hb:Below w.heap.size w w'):∀t:Dt,t.rd w→t.rd w':=
  Dt.indT fun d ts ih h=>by
    rw[Dt.rd_iff]at h ⊢;exact⟨h.1.below hb,h.2.1,h.2.2.1,h.2.2.2.1.below hb,fun t ht=>ih t ht (h.2.2.2.2 t ht)⟩
theorem Dt.tr_mk(d:Nd)(ts:List Dt):(Dt.mk d ts).tr=.mk d.k d.n d.y.q d.s d.rl (ts.map Dt.tr):=by rw[Dt.tr,Dt.trs_map]
mutual
def jo(dp left:Int):Tr→Bool×Int
  | .mk k _ _ _ _ ts => if left - 1 < 0 ∨ 200 < dp then (false, left - 1) else qae dp (decide (k = 8)) 0 (left - 1) ts
def qae(dp:Int)(pr:Bool)(i:Nat)(left:Int):List Tr→Bool×Int
  | [] => (true, left)
  | t :: ts => if (jo (if pr = true ∧ i = 1 then dp else dp + 1) left t).1 = true then qae dp pr (i + 1) (jo (if pr = true ∧ i = 1 then dp else dp + 1) left t).2 ts else (false, (jo (if pr = true ∧ i = 1 then dp else dp + 1) left t).2)
end
mutual
def jp(p:Tr→Bool):Tr→Bool
  | .mk k n q s rl ts => p (.mk k n q s rl ts) && vj p ts
def vj(p:Tr→Bool):List Tr→Bool
  | [] => true
  | t :: ts => jp p t && vj p ts
end
mutual
def qfe(p:Tr→Bool)(dp left:Int):Tr→Int
  | .mk k n q s rl ts => if 200 < dp ∨ left ≤ 0 ∨ p (.mk k n q s rl ts) = false then -1 else qhi p dp (decide (k = 8)) 0 (left - 1) ts
def qhi(p:Tr→Bool)(dp:Int)(pr:Bool)(i:Nat)(left:Int):List Tr→Int
  | [] => left
  | t :: ts => if left < 0 then left else qhi p dp pr (i + 1) (qfe p (if pr = true ∧ i = 1 then dp else dp + 1) left t) ts
end
theorem qpc{p:Tr→Bool}{dp left:Int}{pr:Bool}{i:Nat}{ts:List Tr}(h:left<0):qhi p dp pr i left ts=left:=by
  cases ts with
  | nil => rfl
  | cons t ts => rw [qhi, if_pos h]
def Agree(p:Tr→Bool)(t:Tr):Prop:=∀dp left:Int,0≤left→qfe p dp left t=if(jo dp left t).1=true∧jp p t=true then(jo dp left t).2 else -1
theorem qec: ∀t:Tr,∀dp left:Int,(jo dp left t).1=true→0≤(jo dp left t).2:=by
  refine Tr.indT fun k n q s rl ts ih dp left h=>?_;rw[jo]at h ⊢;by_cases hc:left-1<0∨200<dp
  · rw[if_pos hc]at h; cases h
  · rw[if_neg hc]at h ⊢;have hl:0≤left-1:=(by omega);generalize left-1=m at h hl ⊢;generalize decide (k=8)=pr at h ⊢;have key:∀(us:List Tr),(∀t∈us,∀dp left:Int,(jo dp left t).1=true→0≤(jo dp left t).2)→∀(i:Nat) (m:Int),0≤m→(qae dp pr i m us).1=true→0≤(qae dp pr i m us).2:=by
      intro us
      induction us with
      | nil => intro _ i m hm _; exact hm
      | cons t us ih2 =>
        intro hu i m hm h;rw[qae]at h ⊢;by_cases ht:(jo (if pr=true∧i=1 then dp else dp+1) m t).1=true
        · rw[if_pos ht]at h ⊢;exact ih2 (fun x hx=>hu x (List.mem_cons_of_mem _ hx)) _ _ (hu t List.mem_cons_self _ _ ht) h
        · rw[if_neg ht]at h; cases h
    exact key ts ih 0 m hl h
theorem qtg(p:Tr→Bool):∀t:Tr,Agree p t:=by
  refine Tr.indT fun k n q s rl ts ih dp left h0=>?_;rw[qfe,jo,jp];by_cases hd:200<dp
  · rw[if_pos (.inl hd),if_pos (show left-1<0∨200<dp from .inr hd),if_neg (by simp)]
  · by_cases hl:left≤0
    · rw[if_pos (.inr (.inl hl)),if_pos (show left-1<0∨200<dp from .inl (by omega)),if_neg (by simp)]
    · rw[if_neg (show ¬(left-1<0∨200<dp)by omega)];cases hp:p (.mk k n q s rl ts)with
      | false => rw [if_pos (.inr (.inr rfl)), if_neg (by simp)]
      | true =>
        rw[if_neg (by simp; omega),Bool.true_and];have hm:0≤left-1:=(by omega);generalize left-1=m at hm ⊢;generalize decide (k=8)=pr;have key:∀(us:List Tr),(∀t∈us,Agree p t)→∀(i:Nat) (m:Int),0≤m→qhi p dp pr i m us=if(qae dp pr i m us).1=true∧vj p us=true then(qae dp pr i m us).2 else -1:=by
          intro us
          induction us with
          | nil => intro _ i m hm; rw [qhi, qae, vj, if_pos ⟨rfl, rfl⟩]
          | cons t us ih2 =>
            intro hu i m hm;rw[qhi,qae,vj,if_neg (by omega),hu t List.mem_cons_self _ _ hm];by_cases ht:(jo (if pr=true∧i=1 then dp else dp+1) m t).1=true
            · cases ha:jp p t with
              | false =>
                rw[if_neg (by simp),if_neg (by simp),qpc (by decide)]
              | true =>
                rw[if_pos ⟨ht,rfl⟩,if_pos ht,Bool.true_and];exact ih2 (fun x hx=>hu x (List.mem_cons_of_mem _ hx)) _ _ (qec t _ _ ht)
            · rw[if_neg (fun e=>ht e.1),if_neg ht,if_neg (by simp),qpc (by decide)]
        exact key ts ih 0 m hm
def ku(p:Tr→Bool)(t:Tr):Bool:=(jo 1 20000 t).1&&jp p t
theorem zac(p:Tr→Bool)(t:Tr):decide (0≤qfe p 1 20000 t)=ku p t:=by
  rw[qtg p t 1 20000 (by decide)];unfold ku;by_cases h:(jo 1 20000 t).1=true
  · cases ha:jp p t with
    | true =>
      rw[if_pos ⟨h,rfl⟩,h,Bool.and_self];exact decide_eq_true (qec t _ _ h)
    | false => rw [if_neg (by simp), Bool.and_false]; rfl
  · rw[if_neg (fun e=>h e.1),Bool.eq_false_iff.2 h]; rfl
section
variable {P:Program} {w0 w:World} {L:List Ck} {l:List (Nat×Value)} {dst:Option Tmp} {ty:TypeId} {pos:String} {after:Array Edge} {guard:Option (Nat×Bool)} {v:Value}
theorem qbi(hM:Mg w0 w L){b o o' j:Nat}{cs:List Value}(hH:Here w0 b o cs){t:TypeId}(ht:Is1 P t){x:Operand}(hx:ev l x=some (.pointer (some ⟨b,o',none⟩)))(ho:o'=o+j)(hv:cs[j]?=some v):Does P l ⟨dst,.load t x,ty,pos,after,guard⟩ w v w:=by
  subst ho;exact ju hx (vf ht ((hM.bel.cell hH.1).trans (hH.2 j v hv)))
theorem qia(hM:Mg w0 w L){b o n:Nat}{cs:List Value}(hH:Here w0 b o cs){t:TypeId}(ht:IsS P t n){x:Operand}(hx:ev l x=some (.pointer (some ⟨b,o,none⟩)))(hl:cs.length=n):Does P l ⟨dst,.load t x,ty,pos,after,guard⟩ w (.agg cs.toArray) w:=
  ju hx (vx ht cs hl (fun j v hj=>(hM.bel.cell hH.1).trans (hH.2 j v hj)))
theorem jy{t e:TypeId}{sz:Nat}(hu:P.underlying t=some (.slice e))(he:(P.info? e).map (·.size)=some sz){x i:Operand}{so:Option Addr}{g off n c k:Nat}{z:Int}(hx:ev l x=some (.slice so n c))(hi:ev l i=some (.int .i64 z))(hz:z=(k:Nat))(hso:so=some ⟨g,off,none⟩)(hk:k<n):
    Does P l ⟨dst,.indexAddr t x i,ty,pos,after,guard⟩ w (.pointer (some ⟨g,off+k*sz,none⟩)) w:=by
  subst hz hso;exact yj (l:=l) (dst:=dst) (ty:=ty) (pos:=pos) (after:=after) (guard:=guard) (w:=w) hx hi (qpd hu he hk)
end
theorem kid{w:World}{d:Nd}{ts:List Dt}(h:(Dt.mk d ts).rd w){i:Nat}(hi:i<ts.length):∃t b o,ts[i]?=some t∧t∈ts∧t.rd w∧d.lo=some ⟨b,o,none⟩∧Here w b (o+i*11) t.cells:=by
  rw[Dt.rd_iff]at h;have hne:ts≠[]:=fun e=>by subst e; simp at hi
  obtain⟨b,o,e,h2⟩:=h.2.2.2.1 hne;have ht:=List.getElem?_eq_getElem hi;exact⟨ts[i],b,o,ht,List.getElem_mem hi,h.2.2.2.2 _ (List.getElem_mem hi),e,h2 i _ ht⟩
theorem qaf{ts:List Dt}{i:Nat}{t:Dt}(h:ts[i]?=some t):(ts.map Dt.tr).drop i=t.tr::(ts.map Dt.tr).drop (i+1):=by
  obtain⟨hi,rfl⟩:=List.getElem?_eq_some_iff.1 h;rw[List.drop_eq_getElem_cons (by simpa using hi)];simp
theorem qed{ts:List Dt}{i:Nat}(h:¬i<ts.length):(ts.map Dt.tr).drop i=[]:=List.drop_of_length_le (by simp; omega)
theorem qwe: ∀t:Tr,∀dp left:Int,(jo dp left t).2≤left:=by
  refine Tr.indT fun k n q s rl ts ih dp left=>?_;rw[jo]
  split
  · show left-1≤left; omega
  · have key:∀(us:List Tr),(∀t∈us,∀dp left:Int,(jo dp left t).2≤left)→∀(i:Nat) (m:Int),(qae dp (decide (k=8)) i m us).2≤m:=by
      intro us
      induction us with
      | nil => intro _ i m; exact Int.le_refl _
      | cons t us ih2 =>
        intro hu i m;rw[qae];generalize (if decide (k=8)=true∧i=1 then dp else dp+1)=D;have h1:=hu t List.mem_cons_self D m
        split
        · exact Int.le_trans (ih2 (fun x hx=>hu x (List.mem_cons_of_mem _ hx)) _ _) h1
        · exact h1
    have:=key ts ih 0 (left-1);omega
theorem qwf{dp m D:Int}{pr:Bool}{i:Nat}{ts:List Dt}{t:Dt}(hi:ts[i]?=some t)(hD:(if pr=true∧i=1 then dp else dp+1)=D)(h:(jo D m t.tr).1=true):qae dp pr i m ((ts.map Dt.tr).drop i)=qae dp pr (i+1) (jo D m t.tr).2 ((ts.map Dt.tr).drop (i+1)):=by
  rw[qaf hi,qae,hD,if_pos h]
theorem qke{dp m D:Int}{pr:Bool}{i:Nat}{ts:List Dt}{t:Dt}(hi:ts[i]?=some t)(hD:(if pr=true∧i=1 then dp else dp+1)=D)(h:(jo D m t.tr).1=false):qae dp pr i m ((ts.map Dt.tr).drop i)=(false,(jo D m t.tr).2):=by
  rw[qaf hi,qae,hD,if_neg (by rw[h]; decide)]
theorem qne{dp left:Int}{d:Nd}{ts:List Dt}(h1:¬left-1<0)(h2:¬200<dp):jo dp left (Dt.mk d ts).tr=qae dp (decide (d.k=8)) 0 (left-1) ((ts.map Dt.tr).drop 0):=by
  rw[Dt.tr_mk,jo,if_neg (by omega),List.drop_zero]
theorem znd{dp left:Int}{d:Nd}{ts:List Dt}(h:left-1<0∨200<dp):jo dp left (Dt.mk d ts).tr=(false,left-1):=by
  rw[Dt.tr_mk,jo,if_pos h]
theorem qwg{p:Tr→Bool}{d:Nd}{ts:List Dt}:jp p (Dt.mk d ts).tr=(p (Dt.mk d ts).tr&&vj p ((ts.map Dt.tr).drop 0)):=by
  rw[Dt.tr_mk,jp,List.drop_zero]
theorem zne{p:Tr→Bool}{i:Nat}{ts:List Dt}{t:Dt}(hi:ts[i]?=some t):vj p ((ts.map Dt.tr).drop i)=(jp p t.tr&&vj p ((ts.map Dt.tr).drop (i+1))):=by
  rw[qaf hi,vj]
theorem znf{p:Tr→Bool}{dp left:Int}{d:Nd}{ts:List Dt}(h1:¬200<dp)(h2:¬left≤0)(h3:p (Dt.mk d ts).tr=true):qfe p dp left (Dt.mk d ts).tr=qhi p dp (decide (d.k=8)) 0 (left-1) ((ts.map Dt.tr).drop 0):=by
  rw[Dt.tr_mk]at h3 ⊢;rw[qfe,if_neg (by rw[h3]; simp; omega),List.drop_zero]
theorem qwh{p:Tr→Bool}{dp left:Int}{d:Nd}{ts:List Dt}(h:200<dp∨left≤0∨p (Dt.mk d ts).tr=false):qfe p dp left (Dt.mk d ts).tr=-1:=by
  rw[Dt.tr_mk]at h ⊢;rw[qfe,if_pos h]
theorem qwi{p:Tr→Bool}{dp m D:Int}{pr:Bool}{i:Nat}{ts:List Dt}{t:Dt}(hi:ts[i]?=some t)(hm:¬m<0)(hD:(if pr=true∧i=1 then dp else dp+1)=D):qhi p dp pr i m ((ts.map Dt.tr).drop i)=qhi p dp pr (i+1) (qfe p D m t.tr) ((ts.map Dt.tr).drop (i+1)):=by
  rw[qaf hi,qhi,if_neg hm,hD]
theorem zhc(p:Tr→Bool)(t:Tr)(dp left:Int)(h:0≤left):-1≤qfe p dp left t∧qfe p dp left t≤left:=by
  rw[qtg p t dp left h]
  split
  · rename_i hc;exact⟨by have:=qec t _ _ hc.1; omega,qwe t _ _⟩
  · exact⟨by omega,by omega⟩
def yp(b:Bool)(m m':Nat):Bool:=!b&&(decide (m=0)&&decide (m'=0))
def vz(n:Int)(b1:Bool)(m1 m2:Nat)(b2:Bool)(m3 m4:Nat)(s:ByteArray)(mr ml:Nat):Bool:=decide (n=0)&&(yp b1 m1 m2&&(yp b2 m3 m4&&(decide (s=⟨#[]⟩)&&(decide (mr=0)&&decide (ml=0)))))
def xd(n:Int):Bool:=decide (0≤n∧n≤1114111∧(n<55296∨57343<n))
def okS(s:ByteArray):Bool:=Lib.validD s.data.toList
def jf(k n:Int)(q:Q6)(s:ByteArray)(mr ml:Nat):Bool:=
  if k=1∨k=10 then vz n q.b1 q.t1.length q.q1.length q.b2 q.t2.length q.q2.length s mr ml
  else if k=2 then decide (n=0∨n=1)&&vz 0 q.b1 q.t1.length q.q1.length q.b2 q.t2.length q.q2.length s mr ml
  else if k=3 then jj q&&vz n false 0 0 false 0 0 s mr ml
  else if k=4 then xd n&&vz 0 q.b1 q.t1.length q.q1.length q.b2 q.t2.length q.q2.length s mr ml
  else if k=5∨k=6∨k=11 then okS s&&vz n q.b1 q.t1.length q.q1.length q.b2 q.t2.length q.q2.length ⟨#[]⟩ mr ml
  else if k=7 then vz n q.b1 q.t1.length q.q1.length q.b2 q.t2.length q.q2.length s 0 ml
  else if k=8 then decide (ml=2)&&vz n q.b1 q.t1.length q.q1.length q.b2 q.t2.length q.q2.length s mr 0
  else if k=9 then vz n q.b1 q.t1.length q.q1.length q.b2 q.t2.length q.q2.length s mr 0
  else false
def zl: Tr→Bool
  | .mk k n q s rl ts => jf k n q s rl.length ts.length
theorem ub{d:Nd}{ts:List Dt}:zl (Dt.mk d ts).tr=jf d.k d.n d.y.q d.s d.rl.length ts.length:=by
  rw[Dt.tr_mk,zl,List.length_map]
set_option maxRecDepth 100000
theorem qff: Is1 Tryz.prog 28:=⟨⟨_,Tryz.underlying28,rfl⟩,by kernel_rfl⟩
theorem o93: Is1 Tryz.prog 3:=⟨⟨_,Tryz.underlying3,rfl⟩,by kernel_rfl⟩
theorem kv: FieldAt Tryz.prog 30 0 0:=⟨_,_,Tryz.underlying30,rfl,rfl,by kernel_rfl⟩
theorem vb: FieldAt Tryz.prog 30 5 10:=⟨_,_,Tryz.underlying30,rfl,rfl,by kernel_rfl⟩
theorem jfb: Is1 Tryz.prog 22:=⟨⟨_,Tryz.underlying22,rfl⟩,by kernel_rfl⟩
theorem zhd: Is1 Tryz.prog 27:=⟨⟨_,Tryz.underlying27,rfl⟩,by kernel_rfl⟩
theorem o94: Is1 Tryz.prog 4:=⟨⟨_,Tryz.underlying4,rfl⟩,by kernel_rfl⟩
theorem o99: Is1 Tryz.prog 9:=⟨⟨_,Tryz.underlying9,rfl⟩,by kernel_rfl⟩
theorem zwh: FieldAt Tryz.prog 24 0 0:=⟨_,_,Tryz.underlying24,rfl,rfl,by kernel_rfl⟩
theorem zwi: FieldAt Tryz.prog 24 1 1:=⟨_,_,Tryz.underlying24,rfl,rfl,by kernel_rfl⟩
theorem zwj: FieldAt Tryz.prog 24 2 2:=⟨_,_,Tryz.underlying24,rfl,rfl,by kernel_rfl⟩
theorem zxa: FieldAt Tryz.prog 26 0 0:=⟨_,_,Tryz.underlying26,rfl,rfl,by kernel_rfl⟩
theorem zxb: FieldAt Tryz.prog 26 1 3:=⟨_,_,Tryz.underlying26,rfl,rfl,by kernel_rfl⟩
theorem kw: FieldAt Tryz.prog 30 1 1:=⟨_,_,Tryz.underlying30,rfl,rfl,by kernel_rfl⟩
theorem qbj: FieldAt Tryz.prog 30 2 2:=⟨_,_,Tryz.underlying30,rfl,rfl,by kernel_rfl⟩
theorem ya: FieldAt Tryz.prog 30 3 8:=⟨_,_,Tryz.underlying30,rfl,rfl,by kernel_rfl⟩
theorem zhe: FieldAt Tryz.prog 30 4 9:=⟨_,_,Tryz.underlying30,rfl,rfl,by kernel_rfl⟩
theorem jfc: IsS Tryz.prog 24 3:=⟨⟨_,Tryz.underlying24⟩,by kernel_rfl⟩
theorem jfd: IsS Tryz.prog 26 6:=⟨⟨_,Tryz.underlying26⟩,by kernel_rfl⟩
theorem xi: IsS Tryz.prog 30 11:=⟨⟨_,Tryz.underlying30⟩,by kernel_rfl⟩
theorem uy: FieldAt Tryz.prog 50 1 1:=⟨_,_,Tryz.underlying50,rfl,rfl,by kernel_rfl⟩
theorem qgh: FieldAt Tryz.prog 83 1 1:=⟨_,_,Tryz.underlying83,rfl,rfl,by kernel_rfl⟩
theorem qwj: FieldAt Tryz.prog 50 2 2:=⟨_,_,Tryz.underlying50,rfl,rfl,by kernel_rfl⟩
theorem jld: FieldAt Tryz.prog 50 0 0:=⟨_,_,Tryz.underlying50,rfl,rfl,by kernel_rfl⟩
theorem zxc: Is1 Tryz.prog 31:=⟨⟨_,Tryz.underlying31,rfl⟩,by kernel_rfl⟩
theorem jle: FieldAt Tryz.prog 98 1 1:=⟨_,_,Tryz.underlying98,rfl,rfl,by kernel_rfl⟩
def FitsAt(t:Dt):Prop:=∀{w0 w:World} {b o gl:Nat} {left dp:Int} {T:List Ck},t.rd w0→Here w0 b o t.cells→Mg w0 w (.obj gl (.cells #[iV left] 3)::T)→0≤left→left≤20000→0≤dp→dp≤201→Calls Tryz.prog 25 #[pA b o,iV dp,pA gl 0] w fun e w'=>e=.returned (bV (jo dp left t.tr).1)∧Mg w0 w' (.obj gl (.cells #[iV (jo dp left t.tr).2] 3)::T)
theorem zhf: ∀t:Dt,FitsAt t:=Dt.indT fun d ts ih=>by
 intro w0 w b o gl left dp T hrd hH hM0 hl0 hl1 hd0 hd1;replace hH:Here w0 b o (d.cells ts.length):=hH;have hok:=(Dt.rd_iff.1 hrd);have hk0:=hok.1.k0;have hk1:=hok.1.k1;have hlen:ts.length≤9223372036854775807:=Nat.le_trans hok.2.1 hok.2.2.1;have M:Mg w0 w (.obj gl (.cells #[iV left] 3)::T):=hM0;refine qn (l:=[(0,pA b o),(1,iV dp),(2,pA gl 0)]) Tryz.func25 rfl Tryz.ntmps25 rfl rfl ?_;intro Q hret hnorm hP a A;refine wsk fun K1 hK1=>wrl (sda A λa A=>?_);refine qa (hK1 _ _ (wsk fun K2 hK2=>wrl (sdm A λa A=>?_)));refine sdo A (jw rfl) λa A=>?_;refine sdo A (qw M o93 rfl 0 rfl rfl) λa A=>?_;refine sdo (v:=iV (left-1)) A (qe rfl rfl (zna (yw (by omega) (by omega)))) λa A=>?_;refine sdo A (jw rfl) λa A=>?_;refine za (L':=(.obj gl (.cells #[iV (left-1)] 3)::T)) A M rfl rfl (qp rfl rfl rfl (by kernel_rfl) M 0 rfl rfl rfl) 0 rfl rfl rfl ?_;intro w3 M;refine qa (hK2 _ _ (wsk fun K4 hK4=>wsk fun K5 hK5=>wrl (sdm A λa A=>?_)));refine sdo A (jw rfl) λa A=>?_;refine sdo A (qw M o93 rfl 0 rfl rfl) λa A=>?_;rcases tf (decide (left-1<0))with hb6 | hb6
 ·have hb6':=of_decide_eq_true hb6;refine sdc A zr hb6 λa A=>?_;refine sdm A λa A=>?_;iterate 2 refine qg A rfl rfl rfl λa A=>?_
  refine sdk (v:=bV true) A λa A=>?_;refine qa (hK5 _ _ (ct A ?_));refine wsk fun K7 hK7=>wrl (sda A λa A=>?_);refine qa (hK7 _ _ (wr1 hret A ?_));rw[znd (by omega)];exact⟨rfl,M⟩
 ·have hb6':=of_decide_eq_false hb6;refine sdc A zr hb6 λa A=>?_;iterate 2 refine sdm A λa A=>?_
  rcases tf (decide (200<dp))with hb8 | hb8
  ·have hb8':=of_decide_eq_true hb8;refine sdc A zp hb8 λa A=>?_;refine sdk (v:=bV true) A λa A=>?_;refine qa (hK5 _ _ (ct A ?_));refine wsk fun K9 hK9=>wrl (sda A λa A=>?_);refine qa (hK9 _ _ (wr1 hret A ?_));rw[znd (by omega)];exact⟨rfl,M⟩
  ·have hb8':=of_decide_eq_false hb8;refine sdc A zp hb8 λa A=>?_;refine sdk (v:=bV false) A λa A=>?_;refine qa (hK5 _ _ (cf A ?_));refine wp_skip (hK4 _ _ (wsk fun K10 hK10=>wsk fun K11 hK11=>wrl (sdm A λa A=>?_)));refine sdo A (jw rfl) λa A=>?_;refine sdo (v:=pA b (o+10)) A (qb vb rfl rfl) λa A=>?_;refine sdo A (qbi (j:=10) M hH qff rfl rfl rfl) λa A=>?_;refine sdo A (zh Tryz.underlying28 rfl) λa A=>?_;refine sdm A λa A=>?_;refine qa (hK11 _ _ (wp_block (jd (fun m_ a w1=>∃(i:Nat) (m:Int),m_=1+(ts.length-i)∧(i≤ts.length∧qae dp (decide (d.k=8)) 0 (left-1) ((ts.map Dt.tr).drop 0)=qae dp (decide (d.k=8)) i m ((ts.map Dt.tr).drop i)∧0≤m∧m≤20000)∧Sl a 53 [(0,pA b o),(1,iV dp),(2,pA gl 0),(9,pA gl 0),(10,pA gl 0),(11,iV left),(12,iV (left-1)),(13,pA gl 0),(14,pA gl 0),(15,pA gl 0),(16,iV (left-1)),(17,bV false),(18,bV false),(19,iV dp),(20,bV false),(21,bV false),(22,pA b o),(23,pA b o),(24,pA b (o+10)),(25,.slice d.lo ts.length d.lc),(26,iV (((ts.length:Nat):Int))),(27,iV (((i:Nat):Int)))]∧Mg w0 w1 (.obj gl (.cells #[iV m] 3)::T)) _ ⟨0,left-1,rfl,⟨Nat.zero_le _,rfl,by omega,by omega⟩,A.keep _ (by repeat' constructor),M⟩ ?_)));clear M A;rintro m_ a w12 ⟨i,m,rfl,hinv14,A,M⟩ K13 hK13;obtain⟨hi0,hin9,hm0,hm1⟩:=hinv14;refine wsk fun K15 hK15=>wrl ?_;rcases tf (decide (((i:Nat):Int)<((ts.length:Nat):Int)))with hb16 | hb16
   ·have hb16':=of_decide_eq_true hb16;refine sdc A zr hb16 λa A=>?_;refine qa (hK15 _ _ (wsk fun K17 hK17=>wp_cond_true (A.ev rfl) ?_));refine wp_skip (hK17 _ _ (wsk fun K18 hK18=>wp_block (wsk fun K19 hK19=>wrl (sdm A λa A=>?_))));refine sda A λa A=>?_;refine qa (hK19 _ _ (wsk fun K20 hK20=>wrl (sdm A λa A=>?_)));refine sdo (v:=iV (dp+1)) A (qe rfl rfl (kg (yw (by omega) (by omega)))) λa A=>?_;refine sda A λa A=>?_;refine qa (hK20 _ _ (wsk fun K21 hK21=>wsk fun K22 hK22=>wrl (sdm A λa A=>?_)));refine sdo A (jw rfl) λa A=>?_;refine sdo (v:=pA b o) A (qb kv rfl rfl) λa A=>?_;refine sdo A (qbi (j:=0) M hH o93 rfl rfl rfl) λa A=>?_;rcases tf ((d.k==8))with hb23 | hb23
    ·have hb23':=eq_of_beq hb23;refine sdc A qf hb23 λa A=>?_;iterate 2 refine sdm A λa A=>?_
     rcases tf ((((i:Nat):Int)==1))with hb24 | hb24
     ·have hb24':=eq_of_beq hb24;refine sdc A qf hb24 λa A=>?_;refine sdk (v:=bV true) A λa A=>?_;refine qa (hK22 _ _ (ct A ?_));refine wrl (sdm A λa A=>?_);refine sda A λa A=>?_;refine qa (hK21 _ _ (wsk fun K25 hK25=>?_));obtain⟨t1,b1,o1,hi1,hm1,hr1,hl1,hH1⟩:=kid hrd (i:=i) (by omega);have hD:(if decide (d.k=8)=true∧i=1 then dp else dp+1)=dp:=if_pos ⟨decide_eq_true hb23',by omega⟩;refine wrl (sdm A λa A=>?_);refine sdo A (jw rfl) λa A=>?_;refine sdo (v:=pA b (o+10)) A (qb vb rfl rfl) λa A=>?_;refine sdo A (qbi (j:=10) M hH qff rfl rfl rfl) λa A=>?_;refine sdm A λa A=>?_;refine sdo (v:=pA b1 (o1+i*11)) A (jy (k:=i) Tryz.underlying28 (by kernel_rfl) rfl rfl rfl hl1 (by omega)) λa A=>?_;iterate 2 refine sdm A λa A=>?_
      refine sct A (ef rfl rfl) (ih t1 hm1 hr1 hH1 M (by omega) (by omega) (by omega) (by omega)) ?_;rintro _ w27 ⟨rfl,hM26⟩;replace M:Mg w0 w27 (.obj gl (.cells #[iV ((jo (dp) m t1.tr).2)] 3)::T):=hM26;refine⟨_,rfl,?_⟩;intro a A;refine sdo (v:=bV (!((jo (dp) m t1.tr).1))) A (qr rfl zb) λa A=>?_;refine qa (hK25 _ _ ?_);refine wp_cond_split (t:=!((jo (dp) m t1.tr).1)) (A.ev rfl) (fun hc28=>?_) (fun hc28=>?_)
      ·refine wsk fun K29 hK29=>wrl (sda A λa A=>?_);refine qa (hK29 _ _ (wr1 hret A ?_));have hr9:(jo (dp) m t1.tr).1=false:=(by simpa using hc28);have e9:jo dp left (Dt.mk d ts).tr=(false,(jo (dp) m t1.tr).2):=(by rw[qne (by omega) (by omega),hin9,qke hi1 hD hr9]);rw[e9];exact⟨rfl,M⟩
      ·refine wp_skip (hK18 _ _ (wrl (sdo (v:=iV (((i+1:Nat):Int))) A (qe rfl rfl (fun w=>(kg (yw (by omega) (by omega)) w).trans (by rw[show(((i:Nat):Int)+1:Int)=((i+1:Nat):Int)from by omega]))) λa A=>?_)));refine sdm A λa A=>?_;refine qa ?_;have hr9:(jo (dp) m t1.tr).1=true:=(by simpa using hc28);have hp9:=qec t1.tr _ _ hr9;have hl9:=qwe t1.tr (dp) m;refine hK13 _ _ _ (by omega) ⟨i+1,(jo (dp) m t1.tr).2,rfl,⟨by omega,by rw[hin9,qwf hi1 hD hr9],by omega,by omega⟩,A.keep _ (by repeat' constructor),M⟩
     ·have hb24':=ne_of_beq_false hb24;refine sdc A qf hb24 λa A=>?_;refine sdk (v:=bV false) A λa A=>?_;refine qa (hK22 _ _ (cf A ?_));refine wp_skip (hK21 _ _ (wsk fun K30 hK30=>?_));obtain⟨t1,b1,o1,hi1,hm1,hr1,hl1,hH1⟩:=kid hrd (i:=i) (by omega);have hD:(if decide (d.k=8)=true∧i=1 then dp else dp+1)=dp+1:=if_neg (fun e=>by omega);refine wrl (sdm A λa A=>?_);refine sdo A (jw rfl) λa A=>?_;refine sdo (v:=pA b (o+10)) A (qb vb rfl rfl) λa A=>?_;refine sdo A (qbi (j:=10) M hH qff rfl rfl rfl) λa A=>?_;refine sdm A λa A=>?_;refine sdo (v:=pA b1 (o1+i*11)) A (jy (k:=i) Tryz.underlying28 (by kernel_rfl) rfl rfl rfl hl1 (by omega)) λa A=>?_;iterate 2 refine sdm A λa A=>?_
      refine sct A (ef rfl rfl) (ih t1 hm1 hr1 hH1 M (by omega) (by omega) (by omega) (by omega)) ?_;rintro _ w32 ⟨rfl,hM31⟩;replace M:Mg w0 w32 (.obj gl (.cells #[iV ((jo (dp+1) m t1.tr).2)] 3)::T):=hM31;refine⟨_,rfl,?_⟩;intro a A;refine sdo (v:=bV (!((jo (dp+1) m t1.tr).1))) A (qr rfl zb) λa A=>?_;refine qa (hK30 _ _ ?_);refine wp_cond_split (t:=!((jo (dp+1) m t1.tr).1)) (A.ev rfl) (fun hc33=>?_) (fun hc33=>?_)
      ·refine wsk fun K34 hK34=>wrl (sda A λa A=>?_);refine qa (hK34 _ _ (wr1 hret A ?_));have hr9:(jo (dp+1) m t1.tr).1=false:=(by simpa using hc33);have e9:jo dp left (Dt.mk d ts).tr=(false,(jo (dp+1) m t1.tr).2):=(by rw[qne (by omega) (by omega),hin9,qke hi1 hD hr9]);rw[e9];exact⟨rfl,M⟩
      ·refine wp_skip (hK18 _ _ (wrl (sdo (v:=iV (((i+1:Nat):Int))) A (qe rfl rfl (fun w=>(kg (yw (by omega) (by omega)) w).trans (by rw[show(((i:Nat):Int)+1:Int)=((i+1:Nat):Int)from by omega]))) λa A=>?_)));refine sdm A λa A=>?_;refine qa ?_;have hr9:(jo (dp+1) m t1.tr).1=true:=(by simpa using hc33);have hp9:=qec t1.tr _ _ hr9;have hl9:=qwe t1.tr (dp+1) m;refine hK13 _ _ _ (by omega) ⟨i+1,(jo (dp+1) m t1.tr).2,rfl,⟨by omega,by rw[hin9,qwf hi1 hD hr9],by omega,by omega⟩,A.keep _ (by repeat' constructor),M⟩
    ·have hb23':=ne_of_beq_false hb23;refine sdc A qf hb23 λa A=>?_;refine sdm A λa A=>?_;iterate 2 refine qg A rfl rfl rfl λa A=>?_
     refine sdk (v:=bV false) A λa A=>?_;refine qa (hK22 _ _ (cf A ?_));refine wp_skip (hK21 _ _ (wsk fun K35 hK35=>?_));obtain⟨t1,b1,o1,hi1,hm1,hr1,hl1,hH1⟩:=kid hrd (i:=i) (by omega);have hD:(if decide (d.k=8)=true∧i=1 then dp else dp+1)=dp+1:=if_neg (fun e=>hb23' (of_decide_eq_true e.1));refine wrl (sdm A λa A=>?_);refine sdo A (jw rfl) λa A=>?_;refine sdo (v:=pA b (o+10)) A (qb vb rfl rfl) λa A=>?_;refine sdo A (qbi (j:=10) M hH qff rfl rfl rfl) λa A=>?_;refine sdm A λa A=>?_;refine sdo (v:=pA b1 (o1+i*11)) A (jy (k:=i) Tryz.underlying28 (by kernel_rfl) rfl rfl rfl hl1 (by omega)) λa A=>?_;iterate 2 refine sdm A λa A=>?_
     refine sct A (ef rfl rfl) (ih t1 hm1 hr1 hH1 M (by omega) (by omega) (by omega) (by omega)) ?_;rintro _ w37 ⟨rfl,hM36⟩;replace M:Mg w0 w37 (.obj gl (.cells #[iV ((jo (dp+1) m t1.tr).2)] 3)::T):=hM36;refine⟨_,rfl,?_⟩;intro a A;refine sdo (v:=bV (!((jo (dp+1) m t1.tr).1))) A (qr rfl zb) λa A=>?_;refine qa (hK35 _ _ ?_);refine wp_cond_split (t:=!((jo (dp+1) m t1.tr).1)) (A.ev rfl) (fun hc38=>?_) (fun hc38=>?_)
     ·refine wsk fun K39 hK39=>wrl (sda A λa A=>?_);refine qa (hK39 _ _ (wr1 hret A ?_));have hr9:(jo (dp+1) m t1.tr).1=false:=(by simpa using hc38);have e9:jo dp left (Dt.mk d ts).tr=(false,(jo (dp+1) m t1.tr).2):=(by rw[qne (by omega) (by omega),hin9,qke hi1 hD hr9]);rw[e9];exact⟨rfl,M⟩
     ·refine wp_skip (hK18 _ _ (wrl (sdo (v:=iV (((i+1:Nat):Int))) A (qe rfl rfl (fun w=>(kg (yw (by omega) (by omega)) w).trans (by rw[show(((i:Nat):Int)+1:Int)=((i+1:Nat):Int)from by omega]))) λa A=>?_)));refine sdm A λa A=>?_;refine qa ?_;have hr9:(jo (dp+1) m t1.tr).1=true:=(by simpa using hc38);have hp9:=qec t1.tr _ _ hr9;have hl9:=qwe t1.tr (dp+1) m;refine hK13 _ _ _ (by omega) ⟨i+1,(jo (dp+1) m t1.tr).2,rfl,⟨by omega,by rw[hin9,qwf hi1 hD hr9],by omega,by omega⟩,A.keep _ (by repeat' constructor),M⟩
   ·have hb16':=of_decide_eq_false hb16;refine sdc A zr hb16 λa A=>?_;refine qa (hK15 _ _ (wsk fun K40 hK40=>wp_cond_false (A.ev rfl) ?_));refine wp_exit (hK10 _ _ (wsk fun K41 hK41=>wrl (sda A λa A=>?_)));refine qa (hK41 _ _ (wr1 hret A ?_));have e9:jo dp left (Dt.mk d ts).tr=(true,m):=(by rw[qne (by omega) (by omega),hin9,qed (by omega),qae]);rw[e9];exact⟨rfl,M⟩
def Tabs8(w:World):Prop:=Lib.Utf8Tabs (Tryz.laysValid_ren.g 3) (Tryz.laysValid_ren.g 4) w
theorem Tabs8.below{w w':World}(h:Tabs8 w)(hb:Below w.heap.size w w'):Tabs8 w':=Utf8Tabs_below h hb
theorem yb{w:World}{s:ByteArray}(hs:s.size≤9223372036854775807)(hT:Tabs8 w){b:Bool}(h:okS s=b):Calls Tryz.prog 24 #[.string s] w fun e w'=>e=.returned (bV b)∧Below w.heap.size w w':=h▸Any.utf8_ValidString Tryz.laysValid s w hs hT
theorem zrc{w:World}{r:Int}:Calls Tryz.prog 67 #[.int .i32 r] w fun e w'=>e=.returned (bV (Lib.validRune r))∧Below w.heap.size w w':=(Tryz.utf8_ValidRune r w).mono fun e w' ⟨h,e2⟩=>⟨h,e2▸Below.refl _ _⟩
theorem qxa{P:Program}{s d:TypeId}(hs:P.underlying s=some (.int .i64))(hd:P.underlying d=some (.int .i32)){n:Int}(h0:0≤n)(h1:n≤1114111):∀w,(convert s d (iV n)).run P w=.ok (.int .i32 n) w:=fun w=>by
 simp[go_sem,run_underlying hs,run_underlying hd,convert];exact in_i32 (by omega) (by omega)
theorem qpe{w:World}{n:Int}:Calls Tryz.prog 43 #[iV n] w fun e w'=>e=.returned (bV (xd n))∧Below w.heap.size w w':=by
 have M:Mg w w ([]):=Mg.start w;refine qn (l:=[(0,iV n)]) Tryz.func43 rfl Tryz.ntmps43 rfl rfl ?_;intro Q hret hnorm hP a A;refine wsk fun K1 hK1=>wrl (sda A λa A=>?_);refine qa (hK1 _ _ (wsk fun K2 hK2=>wrl (sdm A λa A=>?_)));rcases tf (decide (0≤n))with hb3 | hb3
 ·have hb3':=of_decide_eq_true hb3;refine sdc A jb hb3 λa A=>?_;iterate 2 refine sdm A λa A=>?_
  rcases tf (decide (n≤1114111))with hb4 | hb4
  ·have hb4':=of_decide_eq_true hb4;refine sdc A jc hb4 λa A=>?_;refine sdk (v:=bV true) A λa A=>?_;iterate 2 refine sdm A λa A=>?_
   refine sdo (v:=.int .i32 n) A (zq rfl (qxa Tryz.underlying3 Tryz.underlying21 (by omega) (by omega))) λa A=>?_;refine gcl A M (ef rfl rfl) (zrc) fun w5 hbv M a A=>?_;refine sdo (v:=bV (Lib.validRune n)) A (zn rfl rfl rfl rfl) λa A=>?_;refine sda A λa A=>?_;refine qa (hK2 _ _ (wr1 hret A ?_));exact⟨by rw[show xd n=Lib.validRune n from by unfold xd; unfold Lib.validRune; exact decide_eq_decide.2 (by omega)],M.bel⟩
  ·have hb4':=of_decide_eq_false hb4;refine sdc A jc hb4 λa A=>?_;refine sdk (v:=bV false) A λa A=>?_;refine sdm A λa A=>?_;iterate 3 refine qg A rfl rfl rfl λa A=>?_
   refine sdk (v:=bV false) A λa A=>?_;refine sda A λa A=>?_;refine qa (hK2 _ _ (wr1 hret A ?_));exact⟨by rw[show xd n=false from by unfold xd; apply decide_eq_false; omega],M.bel⟩
 ·have hb3':=of_decide_eq_false hb3;refine sdc A jb hb3 λa A=>?_;refine sdm A λa A=>?_;iterate 2 refine qg A rfl rfl rfl λa A=>?_
  refine sdk (v:=bV false) A λa A=>?_;refine sdm A λa A=>?_;iterate 3 refine qg A rfl rfl rfl λa A=>?_
  refine sdk (v:=bV false) A λa A=>?_;refine sda A λa A=>?_;refine qa (hK2 _ _ (wr1 hret A ?_));exact⟨by rw[show xd n=false from by unfold xd; apply decide_eq_false; omega],M.bel⟩
theorem qpf{m1 m2:Nat}(h1:m1≤9223372036854775807)(h2:m2≤9223372036854775807):(IntKind.i64.wrap (((m1:Nat):Int)+((m2:Nat):Int))==0)=(decide (m1=0)&&decide (m2=0)):=by
 rw[IntKind.wrap_i64];by_cases a1:m1=0
 ·subst a1;by_cases a2:m2=0
  ·subst a2; rfl
  ·simp[a2]; omega
 ·simp[a1]; omega
theorem yx{w:World}{b:Bool}{o1 o2:Option Addr}{m1 m2 c1 c2:Nat}(h1:m1≤9223372036854775807)(h2:m2≤9223372036854775807){r:Bool}(hr:yp b m1 m2=r):Calls Tryz.prog 68 #[.agg #[bV b,.slice o1 m1 c1,.slice o2 m2 c2]] w fun e w'=>e=.returned (bV r)∧Below w.heap.size w w':=by
 have M:Mg w w ([]):=Mg.start w;refine qn (l:=[(0,.agg #[bV b,.slice o1 m1 c1,.slice o2 m2 c2])]) Tryz.func68 rfl Tryz.ntmps68 rfl rfl ?_;intro Q hret hnorm hP a A;refine wsk fun K1 hK1=>wrl (xt (vs:=[bV b,.slice o1 m1 c1,.slice o2 m2 c2]) (t:=24) A M rfl rfl rfl pg (zd rfl rfl) (by decide) ?_);intro g2 w3 M a A;refine sda A λa A=>?_;refine qa (hK1 _ _ (wsk fun K4 hK4=>wrl (sdo (v:=pA g2 0) A (qb zwh rfl rfl) λa A=>?_)));refine sdo A (qw M o94 rfl 0 rfl rfl) λa A=>?_;rcases b with _ | _
 ·refine sdo (v:=bV true) A (qr rfl zb) λa A=>?_;refine sdm A λa A=>?_;refine sdo (v:=pA g2 1) A (qb zwi rfl rfl) λa A=>?_;refine sdo A (qw M jfb rfl 0 rfl rfl) λa A=>?_;refine sdo A (zh Tryz.underlying22 rfl) λa A=>?_;rcases tf ((((m1:Nat):Int)==0))with hb5 | hb5
  ·have hb5':=eq_of_beq hb5;refine sdc A qf hb5 λa A=>?_;refine sdk (v:=bV true) A λa A=>?_;refine sdm A λa A=>?_;refine sdo (v:=pA g2 2) A (qb zwj rfl rfl) λa A=>?_;refine sdo A (qw M jfb rfl 0 rfl rfl) λa A=>?_;refine sdo A (zh Tryz.underlying22 rfl) λa A=>?_;rcases tf ((((m2:Nat):Int)==0))with hb6 | hb6
   ·have hb6':=eq_of_beq hb6;refine sdc A qf hb6 λa A=>?_;refine sdk (v:=bV true) A λa A=>?_;refine sda A λa A=>?_;refine qa (hK4 _ _ (wr1 hret A ?_));subst hr;exact⟨by unfold yp; simp_all; try omega,M.bel⟩
   ·have hb6':=ne_of_beq_false hb6;refine sdc A qf hb6 λa A=>?_;refine sdk (v:=bV false) A λa A=>?_;refine sda A λa A=>?_;refine qa (hK4 _ _ (wr1 hret A ?_));subst hr;exact⟨by unfold yp; simp_all; try omega,M.bel⟩
  ·have hb5':=ne_of_beq_false hb5;refine sdc A qf hb5 λa A=>?_;refine sdk (v:=bV false) A λa A=>?_;refine sdm A λa A=>?_;iterate 4 refine qg A rfl rfl rfl λa A=>?_
   refine sdk (v:=bV false) A λa A=>?_;refine sda A λa A=>?_;refine qa (hK4 _ _ (wr1 hret A ?_));subst hr;exact⟨by unfold yp; simp_all; try omega,M.bel⟩
 ·refine sdo (v:=bV false) A (qr rfl zb) λa A=>?_;refine sdm A λa A=>?_;iterate 4 refine qg A rfl rfl rfl λa A=>?_
  refine sdk (v:=bV false) A λa A=>?_;refine sdm A λa A=>?_;iterate 4 refine qg A rfl rfl rfl λa A=>?_
  refine sdk (v:=bV false) A λa A=>?_;refine sda A λa A=>?_;refine qa (hK4 _ _ (wr1 hret A ?_));subst hr;exact⟨by unfold yp; simp_all; try omega,M.bel⟩
theorem qee{w:World}{b:Bool}{o1 o2:Option Addr}{m1 m2 c1 c2:Nat}(h1:m1≤9223372036854775807)(h2:m2≤9223372036854775807){r:Bool}(hr:yp b m1 m2=r):Calls Tryz.prog 47 #[.agg #[bV b,.slice o1 m1 c1,.slice o2 m2 c2]] w fun e w'=>e=.returned (bV r)∧Below w.heap.size w w':=by
 have M:Mg w w ([]):=Mg.start w;refine qn (l:=[(0,.agg #[bV b,.slice o1 m1 c1,.slice o2 m2 c2])]) Tryz.func47 rfl Tryz.ntmps47 rfl rfl ?_;intro Q hret hnorm hP a A;refine wsk fun K1 hK1=>wrl (xt (vs:=[bV b,.slice o1 m1 c1,.slice o2 m2 c2]) (t:=24) A M rfl rfl rfl pg (zd rfl rfl) (by decide) ?_);intro g2 w3 M a A;refine sda A λa A=>?_;refine qa (hK1 _ _ (wsk fun K4 hK4=>wrl (sdo (v:=pA g2 0) A (qb zwh rfl rfl) λa A=>?_)));refine sdo A (qw M o94 rfl 0 rfl rfl) λa A=>?_;rcases b with _ | _
 ·refine sdo (v:=bV true) A (qr rfl zb) λa A=>?_;refine sdm A λa A=>?_;refine sdo (v:=pA g2 1) A (qb zwi rfl rfl) λa A=>?_;refine sdo A (qw M jfb rfl 0 rfl rfl) λa A=>?_;refine sdo A (zh Tryz.underlying22 rfl) λa A=>?_;refine sdo (v:=pA g2 2) A (qb zwj rfl rfl) λa A=>?_;refine sdo A (qw M jfb rfl 0 rfl rfl) λa A=>?_;refine sdo A (zh Tryz.underlying22 rfl) λa A=>?_;refine sdo (v:=iV (IntKind.i64.wrap (((m1:Nat):Int)+((m2:Nat):Int)))) A (qe rfl rfl (ar_add rfl)) λa A=>?_;rcases tf ((IntKind.i64.wrap (((m1:Nat):Int)+((m2:Nat):Int))==0))with hb5 | hb5
  ·have hb5':=eq_of_beq hb5;refine sdc A qf hb5 λa A=>?_;refine sdk (v:=bV true) A λa A=>?_;refine sda A λa A=>?_;refine qa (hK4 _ _ (wr1 hret A ?_));subst hr;have e9:=qpf h1 h2;try rw[e9]at hb5
   exact⟨by unfold yp; simp_all; try omega,M.bel⟩
  ·have hb5':=ne_of_beq_false hb5;refine sdc A qf hb5 λa A=>?_;refine sdk (v:=bV false) A λa A=>?_;refine sda A λa A=>?_;refine qa (hK4 _ _ (wr1 hret A ?_));subst hr;have e9:=qpf h1 h2;try rw[e9]at hb5
   exact⟨by unfold yp; simp_all; try omega,M.bel⟩
 ·refine sdo (v:=bV false) A (qr rfl zb) λa A=>?_;refine sdm A λa A=>?_;iterate 8 refine qg A rfl rfl rfl λa A=>?_
  refine sdk (v:=bV false) A λa A=>?_;refine sda A λa A=>?_;refine qa (hK4 _ _ (wr1 hret A ?_));subst hr;have e9:=qpf h1 h2;exact⟨by unfold yp; simp_all; try omega,M.bel⟩
theorem zxd{w:World}{k n:Int}{b1 b2:Bool}{o1 o2 o3 o4 ro lo:Option Addr}{m1 m2 m3 m4 mr ml c1 c2 c3 c4 rc lc:Nat}{s:ByteArray}(h1:m1≤9223372036854775807)(h2:m2≤9223372036854775807)(h3:m3≤9223372036854775807)(h4:m4≤9223372036854775807){r:Bool}(hr:vz n b1 m1 m2 b2 m3 m4 s mr ml=r):Calls Tryz.prog 44 #[.agg #[iV k,iV n,bV b1,.slice o1 m1 c1,.slice o2 m2 c2,bV b2,.slice o3 m3 c3,.slice o4 m4 c4,.string s,.slice ro mr rc,.slice lo ml lc]] w fun e w'=>e=.returned (bV r)∧Below w.heap.size w w':=by
 have M:Mg w w ([]):=Mg.start w;refine qn (l:=[(0,.agg #[iV k,iV n,bV b1,.slice o1 m1 c1,.slice o2 m2 c2,bV b2,.slice o3 m3 c3,.slice o4 m4 c4,.string s,.slice ro mr rc,.slice lo ml lc])]) Tryz.func44 rfl Tryz.ntmps44 rfl rfl ?_;intro Q hret hnorm hP a A;refine wsk fun K1 hK1=>wrl (xt (vs:=[iV k,iV n,bV b1,.slice o1 m1 c1,.slice o2 m2 c2,bV b2,.slice o3 m3 c3,.slice o4 m4 c4,.string s,.slice ro mr rc,.slice lo ml lc]) (t:=30) A M rfl rfl rfl pg (zd rfl rfl) (by decide) ?_);intro g2 w3 M a A;refine sda A λa A=>?_;refine qa (hK1 _ _ (wsk fun K4 hK4=>wrl (sdo (v:=pA g2 1) A (qb kw rfl rfl) λa A=>?_)));refine sdo A (qw M o93 rfl 0 rfl rfl) λa A=>?_;rcases tf ((n==0))with hb5 | hb5
 ·have hb5':=eq_of_beq hb5;refine sdc A qf hb5 λa A=>?_;refine sdm A λa A=>?_;refine sdo (v:=pA g2 2) A (qb qbj rfl rfl) λa A=>?_;refine sdo (v:=pA g2 2) A (qb zxa rfl rfl) λa A=>?_;refine sdo A (jg M jfc rfl 0 rfl (cs:=[bV b1,.slice o1 m1 c1,.slice o2 m2 c2]) rfl rfl) λa A=>?_;rcases tf (yp b1 m1 m2)with hb6 | hb6
  ·refine gcl A M (ef rfl rfl) (yx h1 h2 hb6) fun w8 hb7 M a A=>?_;refine sdk (v:=bV true) A λa A=>?_;refine sdm A λa A=>?_;refine sdo (v:=pA g2 2) A (qb qbj rfl rfl) λa A=>?_;refine sdo (v:=pA g2 5) A (qb zxb rfl rfl) λa A=>?_;refine sdo A (jg M jfc rfl 0 rfl (cs:=[bV b2,.slice o3 m3 c3,.slice o4 m4 c4]) rfl rfl) λa A=>?_;rcases tf (yp b2 m3 m4)with hb9 | hb9
   ·refine gcl A M (ef rfl rfl) (yx h3 h4 hb9) fun w11 hb10 M a A=>?_;refine sdk (v:=bV true) A λa A=>?_;refine sdm A λa A=>?_;refine sdo (v:=pA g2 8) A (qb ya rfl rfl) λa A=>?_;refine sdo A (qw M o99 rfl 0 rfl rfl) λa A=>?_;rcases tf (decide (s=⟨#[]⟩))with hb12 | hb12
    ·have hb12':=of_decide_eq_true hb12;refine sdo (v:=bV true) A (qe rfl rfl (fun w=>(qhj Tryz.underlying9 w).trans (by rw[hb12]<;>rfl))) λa A=>?_;refine sdk (v:=bV true) A λa A=>?_;refine sdm A λa A=>?_;refine sdo (v:=pA g2 9) A (qb zhe rfl rfl) λa A=>?_;refine sdo A (qw M zhd rfl 0 rfl rfl) λa A=>?_;refine sdo A (zh Tryz.underlying27 rfl) λa A=>?_;rcases tf ((((mr:Nat):Int)==0))with hb13 | hb13
     ·have hb13':=eq_of_beq hb13;refine sdc A qf hb13 λa A=>?_;refine sdk (v:=bV true) A λa A=>?_;refine sdm A λa A=>?_;refine sdo (v:=pA g2 10) A (qb vb rfl rfl) λa A=>?_;refine sdo A (qw M qff rfl 0 rfl rfl) λa A=>?_;refine sdo A (zh Tryz.underlying28 rfl) λa A=>?_;rcases tf ((((ml:Nat):Int)==0))with hb14 | hb14
      ·have hb14':=eq_of_beq hb14;refine sdc A qf hb14 λa A=>?_;refine sdk (v:=bV true) A λa A=>?_;refine sda A λa A=>?_;refine qa (hK4 _ _ (wr1 hret A ?_));subst hr;exact⟨by unfold vz; simp_all,M.bel⟩
      ·have hb14':=ne_of_beq_false hb14;refine sdc A qf hb14 λa A=>?_;refine sdk (v:=bV false) A λa A=>?_;refine sda A λa A=>?_;refine qa (hK4 _ _ (wr1 hret A ?_));subst hr;exact⟨by unfold vz; simp_all,M.bel⟩
     ·have hb13':=ne_of_beq_false hb13;refine sdc A qf hb13 λa A=>?_;refine sdk (v:=bV false) A λa A=>?_;refine sdm A λa A=>?_;iterate 4 refine qg A rfl rfl rfl λa A=>?_
      refine sdk (v:=bV false) A λa A=>?_;refine sda A λa A=>?_;refine qa (hK4 _ _ (wr1 hret A ?_));subst hr;exact⟨by unfold vz; simp_all,M.bel⟩
    ·have hb12':=of_decide_eq_false hb12;refine sdo (v:=bV false) A (qe rfl rfl (fun w=>(qhj Tryz.underlying9 w).trans (by rw[hb12]<;>rfl))) λa A=>?_;refine sdk (v:=bV false) A λa A=>?_;refine sdm A λa A=>?_;iterate 4 refine qg A rfl rfl rfl λa A=>?_
     refine sdk (v:=bV false) A λa A=>?_;refine sdm A λa A=>?_;iterate 4 refine qg A rfl rfl rfl λa A=>?_
     refine sdk (v:=bV false) A λa A=>?_;refine sda A λa A=>?_;refine qa (hK4 _ _ (wr1 hret A ?_));subst hr;exact⟨by unfold vz; simp_all,M.bel⟩
   ·refine gcl A M (ef rfl rfl) (yx h3 h4 hb9) fun w16 hb15 M a A=>?_;refine sdk (v:=bV false) A λa A=>?_;refine sdm A λa A=>?_;iterate 3 refine qg A rfl rfl rfl λa A=>?_
    refine sdk (v:=bV false) A λa A=>?_;refine sdm A λa A=>?_;iterate 4 refine qg A rfl rfl rfl λa A=>?_
    refine sdk (v:=bV false) A λa A=>?_;refine sdm A λa A=>?_;iterate 4 refine qg A rfl rfl rfl λa A=>?_
    refine sdk (v:=bV false) A λa A=>?_;refine sda A λa A=>?_;refine qa (hK4 _ _ (wr1 hret A ?_));subst hr;exact⟨by unfold vz; simp_all,M.bel⟩
  ·refine gcl A M (ef rfl rfl) (yx h1 h2 hb6) fun w18 hb17 M a A=>?_;refine sdk (v:=bV false) A λa A=>?_;refine sdm A λa A=>?_;iterate 4 refine qg A rfl rfl rfl λa A=>?_
   refine sdk (v:=bV false) A λa A=>?_;refine sdm A λa A=>?_;iterate 3 refine qg A rfl rfl rfl λa A=>?_
   refine sdk (v:=bV false) A λa A=>?_;refine sdm A λa A=>?_;iterate 4 refine qg A rfl rfl rfl λa A=>?_
   refine sdk (v:=bV false) A λa A=>?_;refine sdm A λa A=>?_;iterate 4 refine qg A rfl rfl rfl λa A=>?_
   refine sdk (v:=bV false) A λa A=>?_;refine sda A λa A=>?_;refine qa (hK4 _ _ (wr1 hret A ?_));subst hr;exact⟨by unfold vz; simp_all,M.bel⟩
 ·have hb5':=ne_of_beq_false hb5;refine sdc A qf hb5 λa A=>?_;refine sdm A λa A=>?_;iterate 4 refine qg A rfl rfl rfl λa A=>?_
  refine sdk (v:=bV false) A λa A=>?_;refine sdm A λa A=>?_;iterate 4 refine qg A rfl rfl rfl λa A=>?_
  refine sdk (v:=bV false) A λa A=>?_;refine sdm A λa A=>?_;iterate 3 refine qg A rfl rfl rfl λa A=>?_
  refine sdk (v:=bV false) A λa A=>?_;refine sdm A λa A=>?_;iterate 4 refine qg A rfl rfl rfl λa A=>?_
  refine sdk (v:=bV false) A λa A=>?_;refine sdm A λa A=>?_;iterate 4 refine qg A rfl rfl rfl λa A=>?_
  refine sdk (v:=bV false) A λa A=>?_;refine sda A λa A=>?_;refine qa (hK4 _ _ (wr1 hret A ?_));subst hr;exact⟨by unfold vz; simp_all,M.bel⟩
theorem qpg{w:World}{d:Nd}{ts:List Dt}(hok:NdOk w d)(hT:Tabs8 w):Calls Tryz.prog 26 #[.agg (d.cells ts.length).toArray] w fun e w'=>e=.returned (bV (jf d.k d.n d.y.q d.s d.rl.length ts.length))∧Below w.heap.size w w':=by
 have hq1:=hok.len.l1;have hq2:=hok.len.l2;have hq3:=hok.len.l3;have hq4:=hok.len.l4;have M:Mg w w ([]):=Mg.start w;refine qn (l:=[(0,.agg (d.cells ts.length).toArray)]) Tryz.func26 rfl Tryz.ntmps26 rfl rfl ?_;intro Q hret hnorm hP a A;refine wsk fun K1 hK1=>wrl (xt (vs:=[iV d.k,iV d.n,bV d.y.q.b1,.slice d.y.o1 d.y.q.t1.length d.y.c1,.slice d.y.o2 d.y.q.q1.length d.y.c2,bV d.y.q.b2,.slice d.y.o3 d.y.q.t2.length d.y.c3,.slice d.y.o4 d.y.q.q2.length d.y.c4,.string d.s,.slice d.ro d.rl.length d.rc,.slice d.lo ts.length d.lc]) (t:=30) A M rfl rfl rfl pg (zd rfl rfl) (by decide) ?_);intro g2 w3 M a A;refine sda A λa A=>?_;refine qa (hK1 _ _ (wsk fun K4 hK4=>wrl (sda A λa A=>?_)));refine qa (hK4 _ _ (wsk fun K5 hK5=>?_));have hJ6:∀a w1,(∃(ok:Bool) (z1:Int) (z2:Bool) (y1:Option Addr) (m1:Nat) (e1:Nat) (y2:Option Addr) (m2:Nat) (e2:Nat) (z3:Bool) (y3:Option Addr) (m3:Nat) (e3:Nat) (y4:Option Addr) (m4:Nat) (e4:Nat) (zs:ByteArray) (yr:Option Addr) (mr:Nat) (er:Nat) (yl:Option Addr) (ml:Nat) (el:Nat),(jf d.k d.n d.y.q d.s d.rl.length ts.length=(ok&&vz z1 z2 m1 m2 z3 m3 m4 zs mr ml)∧m1≤9223372036854775807∧m2≤9223372036854775807∧m3≤9223372036854775807∧m4≤9223372036854775807)∧Sl a 59 [(0,.agg (d.cells ts.length).toArray),(1,pA g2 0),(2,bV false),(3,bV ok)]∧Mg w w1 (.obj g2 (.cells #[iV d.k,iV z1,bV z2,.slice y1 m1 e1,.slice y2 m2 e2,bV z3,.slice y3 m3 e3,.slice y4 m4 e4,.string zs,.slice yr mr er,.slice yl ml el] 30)::[]))→K5 a w1:=by
  clear A M;rintro a w7 ⟨ok,z1,z2,y1,m1,e1,y2,m2,e2,z3,y3,m3,e3,y4,m4,e4,zs,yr,mr,er,yl,ml,el,hf8,A,M⟩;obtain⟨hsh,hq1,hq2,hq3,hq4⟩:=hf8;refine hK5 _ _ (wsk fun K9 hK9=>wrl ?_);iterate 2 refine sdm A λa A=>?_
  rcases ok with _ | _
  ·iterate 2 refine qg A rfl rfl rfl λa A=>?_
   refine sdk (v:=bV false) A λa A=>?_;refine sda A λa A=>?_;refine qa (hK9 _ _ (wr1 hret A ?_));exact⟨by rw[hsh]; rfl,M.bel⟩
  ·refine sdo A (jg M xi rfl 0 rfl (cs:=[iV d.k,iV z1,bV z2,.slice y1 m1 e1,.slice y2 m2 e2,bV z3,.slice y3 m3 e3,.slice y4 m4 e4,.string zs,.slice yr mr er,.slice yl ml el]) rfl rfl) λa A=>?_;refine gcl A M (ef rfl rfl) (zxd (by first | exact hq1 | omega) (by first | exact hq2 | omega) (by first | exact hq3 | omega) (by first | exact hq4 | omega) rfl) fun w11 hb10 M a A=>?_;refine sdo (v:=bV (vz z1 z2 m1 m2 z3 m3 m4 zs mr ml)) A (zn rfl rfl rfl rfl) λa A=>?_;refine sda A λa A=>?_;refine qa (hK9 _ _ (wr1 hret A ?_));exact⟨by rw[hsh]; rfl,M.bel⟩
 refine wsk fun K12 hK12=>wrl (sdo (v:=pA g2 0) A (qb kv rfl rfl) λa A=>?_);refine sdo A (qw M o93 rfl 0 rfl rfl) λa A=>?_;refine qa (hK12 _ _ (wp_block (wsk fun K13 hK13=>wsk fun K14 hK14=>wrl ?_)));rcases tf ((d.k==1))with hb15 | hb15
 ·have hb15':=eq_of_beq hb15;refine sdc A qf hb15 λa A=>?_;refine sda A λa A=>?_;refine qa (hK14 _ _ (ct A ?_));refine wp_skip (hK13 _ _ (ct A ?_));refine wp_skip ?_;exact hJ6 _ _ ⟨true,d.n,d.y.q.b1,d.y.o1,d.y.q.t1.length,d.y.c1,d.y.o2,d.y.q.q1.length,d.y.c2,d.y.q.b2,d.y.o3,d.y.q.t2.length,d.y.c3,d.y.o4,d.y.q.q2.length,d.y.c4,d.s,d.ro,d.rl.length,d.rc,d.lo,ts.length,d.lc,⟨by
   unfold jf;repeat (first | rw[if_pos (by omega)] | rw[if_neg (by omega)])
   first | rfl,by first | exact hq1 | decide,by first | exact hq2 | decide,by first | exact hq3 | decide,by first | exact hq4 | decide⟩,A.keep _ ⟨rfl,rfl,rfl,rfl,trivial⟩,M⟩
 ·have hb15':=ne_of_beq_false hb15;refine sdc A qf hb15 λa A=>?_;refine sda A λa A=>?_;refine qa (hK14 _ _ (cf A ?_));refine wrl ?_;rcases tf ((d.k==10))with hb16 | hb16
  ·have hb16':=eq_of_beq hb16;refine sdc A qf hb16 λa A=>?_;refine sda A λa A=>?_;refine qa (hK13 _ _ (ct A ?_));refine wp_skip ?_;exact hJ6 _ _ ⟨true,d.n,d.y.q.b1,d.y.o1,d.y.q.t1.length,d.y.c1,d.y.o2,d.y.q.q1.length,d.y.c2,d.y.q.b2,d.y.o3,d.y.q.t2.length,d.y.c3,d.y.o4,d.y.q.q2.length,d.y.c4,d.s,d.ro,d.rl.length,d.rc,d.lo,ts.length,d.lc,⟨by
    unfold jf;repeat (first | rw[if_pos (by omega)] | rw[if_neg (by omega)])
    first | rfl,by first | exact hq1 | decide,by first | exact hq2 | decide,by first | exact hq3 | decide,by first | exact hq4 | decide⟩,A.keep _ ⟨rfl,rfl,rfl,rfl,trivial⟩,M⟩
  ·have hb16':=ne_of_beq_false hb16;refine sdc A qf hb16 λa A=>?_;refine sda A λa A=>?_;refine qa (hK13 _ _ (cf A ?_));refine wsk fun K17 hK17=>wrl ?_;rcases tf ((d.k==2))with hb18 | hb18
   ·have hb18':=eq_of_beq hb18;refine sdc A qf hb18 λa A=>?_;refine sda A λa A=>?_;refine qa (hK17 _ _ (ct A ?_));refine wrl (sdo (v:=pA g2 1) A (qb kw rfl rfl) λa A=>?_);refine sdo A (qw M o93 rfl 0 rfl rfl) λa A=>?_;rcases tf ((d.n==0))with hb19 | hb19
    ·have hb19':=eq_of_beq hb19;refine sdc A qf hb19 λa A=>?_;refine sdm A λa A=>?_;iterate 3 refine qg A rfl rfl rfl λa A=>?_
     refine sdk (v:=bV true) A λa A=>?_;refine sda A λa A=>?_;refine sdo (v:=pA g2 1) A (qb kw rfl rfl) λa A=>?_;refine za (L':=(.obj g2 (.cells #[iV d.k,iV 0,bV d.y.q.b1,.slice d.y.o1 d.y.q.t1.length d.y.c1,.slice d.y.o2 d.y.q.q1.length d.y.c2,bV d.y.q.b2,.slice d.y.o3 d.y.q.t2.length d.y.c3,.slice d.y.o4 d.y.q.q2.length d.y.c4,.string d.s,.slice d.ro d.rl.length d.rc,.slice d.lo ts.length d.lc] 30)::[])) A M rfl rfl (qp rfl rfl rfl (by kernel_rfl) M 0 rfl rfl rfl) 0 rfl rfl rfl ?_;intro w20 M;refine qa ?_;exact hJ6 _ _ ⟨true,0,d.y.q.b1,d.y.o1,d.y.q.t1.length,d.y.c1,d.y.o2,d.y.q.q1.length,d.y.c2,d.y.q.b2,d.y.o3,d.y.q.t2.length,d.y.c3,d.y.o4,d.y.q.q2.length,d.y.c4,d.s,d.ro,d.rl.length,d.rc,d.lo,ts.length,d.lc,⟨by
      unfold jf;repeat (first | rw[if_pos (by omega)] | rw[if_neg (by omega)])
      first | rfl | (rw[decide_eq_true (show(d.n=0∨d.n=1)by omega)]),by first | exact hq1 | decide,by first | exact hq2 | decide,by first | exact hq3 | decide,by first | exact hq4 | decide⟩,A.keep _ ⟨rfl,rfl,rfl,rfl,trivial⟩,M⟩
    ·have hb19':=ne_of_beq_false hb19;refine sdc A qf hb19 λa A=>?_;refine sdm A λa A=>?_;refine sdo (v:=pA g2 1) A (qb kw rfl rfl) λa A=>?_;refine sdo A (qw M o93 rfl 0 rfl rfl) λa A=>?_;rcases tf ((d.n==1))with hb21 | hb21
     ·have hb21':=eq_of_beq hb21;refine sdc A qf hb21 λa A=>?_;refine sdk (v:=bV true) A λa A=>?_;refine sda A λa A=>?_;refine sdo (v:=pA g2 1) A (qb kw rfl rfl) λa A=>?_;refine za (L':=(.obj g2 (.cells #[iV d.k,iV 0,bV d.y.q.b1,.slice d.y.o1 d.y.q.t1.length d.y.c1,.slice d.y.o2 d.y.q.q1.length d.y.c2,bV d.y.q.b2,.slice d.y.o3 d.y.q.t2.length d.y.c3,.slice d.y.o4 d.y.q.q2.length d.y.c4,.string d.s,.slice d.ro d.rl.length d.rc,.slice d.lo ts.length d.lc] 30)::[])) A M rfl rfl (qp rfl rfl rfl (by kernel_rfl) M 0 rfl rfl rfl) 0 rfl rfl rfl ?_;intro w22 M;refine qa ?_;exact hJ6 _ _ ⟨true,0,d.y.q.b1,d.y.o1,d.y.q.t1.length,d.y.c1,d.y.o2,d.y.q.q1.length,d.y.c2,d.y.q.b2,d.y.o3,d.y.q.t2.length,d.y.c3,d.y.o4,d.y.q.q2.length,d.y.c4,d.s,d.ro,d.rl.length,d.rc,d.lo,ts.length,d.lc,⟨by
       unfold jf;repeat (first | rw[if_pos (by omega)] | rw[if_neg (by omega)])
       first | rfl | (rw[decide_eq_true (show(d.n=0∨d.n=1)by omega)]),by first | exact hq1 | decide,by first | exact hq2 | decide,by first | exact hq3 | decide,by first | exact hq4 | decide⟩,A.keep _ ⟨rfl,rfl,rfl,rfl,trivial⟩,M⟩
     ·have hb21':=ne_of_beq_false hb21;refine sdc A qf hb21 λa A=>?_;refine sdk (v:=bV false) A λa A=>?_;refine sda A λa A=>?_;refine sdo (v:=pA g2 1) A (qb kw rfl rfl) λa A=>?_;refine za (L':=(.obj g2 (.cells #[iV d.k,iV 0,bV d.y.q.b1,.slice d.y.o1 d.y.q.t1.length d.y.c1,.slice d.y.o2 d.y.q.q1.length d.y.c2,bV d.y.q.b2,.slice d.y.o3 d.y.q.t2.length d.y.c3,.slice d.y.o4 d.y.q.q2.length d.y.c4,.string d.s,.slice d.ro d.rl.length d.rc,.slice d.lo ts.length d.lc] 30)::[])) A M rfl rfl (qp rfl rfl rfl (by kernel_rfl) M 0 rfl rfl rfl) 0 rfl rfl rfl ?_;intro w23 M;refine qa ?_;exact hJ6 _ _ ⟨false,0,d.y.q.b1,d.y.o1,d.y.q.t1.length,d.y.c1,d.y.o2,d.y.q.q1.length,d.y.c2,d.y.q.b2,d.y.o3,d.y.q.t2.length,d.y.c3,d.y.o4,d.y.q.q2.length,d.y.c4,d.s,d.ro,d.rl.length,d.rc,d.lo,ts.length,d.lc,⟨by
       unfold jf;repeat (first | rw[if_pos (by omega)] | rw[if_neg (by omega)])
       first | rfl | (rw[decide_eq_false (show ¬(d.n=0∨d.n=1)by omega)]),by first | exact hq1 | decide,by first | exact hq2 | decide,by first | exact hq3 | decide,by first | exact hq4 | decide⟩,A.keep _ ⟨rfl,rfl,rfl,rfl,trivial⟩,M⟩
   ·have hb18':=ne_of_beq_false hb18;refine sdc A qf hb18 λa A=>?_;refine sda A λa A=>?_;refine qa (hK17 _ _ (cf A ?_));refine wsk fun K24 hK24=>wrl ?_;rcases tf ((d.k==3))with hb25 | hb25
    ·have hb25':=eq_of_beq hb25;refine sdc A qf hb25 λa A=>?_;refine sda A λa A=>?_;refine qa (hK24 _ _ (ct A ?_));refine wrl (sdo (v:=pA g2 2) A (qb qbj rfl rfl) λa A=>?_);refine sdo A (jg M jfd rfl 0 rfl (cs:=[bV d.y.q.b1,.slice d.y.o1 d.y.q.t1.length d.y.c1,.slice d.y.o2 d.y.q.q1.length d.y.c2,bV d.y.q.b2,.slice d.y.o3 d.y.q.t2.length d.y.c3,.slice d.y.o4 d.y.q.q2.length d.y.c4]) rfl rfl) λa A=>?_;rcases tf (jj d.y.q)with hb26 | hb26
     ·refine gcl A M (ef rfl rfl) (xz (Nu.below hok.num M.bel) hok.len hb26) fun w28 hb27 M a A=>?_;refine sdo (v:=.agg #[bV false,.slice none 0 0,.slice none 0 0,bV false,.slice none 0 0,.slice none 0 0]) A (qt rfl (fun w=>by kernel_rfl)) λa A=>?_;refine sda A λa A=>?_;refine sdo (v:=pA g2 2) A (qb qbj rfl rfl) λa A=>?_;refine za (L':=(.obj g2 (.cells #[iV d.k,iV d.n,bV false,.slice none 0 0,.slice none 0 0,bV false,.slice none 0 0,.slice none 0 0,.string d.s,.slice d.ro d.rl.length d.rc,.slice d.lo ts.length d.lc] 30)::[])) A M rfl rfl (qp rfl rfl rfl (by kernel_rfl) M 0 rfl rfl rfl) 0 rfl rfl rfl ?_;intro w29 M;refine qa ?_;exact hJ6 _ _ ⟨true,d.n,false,none,0,0,none,0,0,false,none,0,0,none,0,0,d.s,d.ro,d.rl.length,d.rc,d.lo,ts.length,d.lc,⟨by
       unfold jf;repeat (first | rw[if_pos (by omega)] | rw[if_neg (by omega)])
       first | rfl | rw[hb26],by first | exact hq1 | decide,by first | exact hq2 | decide,by first | exact hq3 | decide,by first | exact hq4 | decide⟩,A.keep _ ⟨rfl,rfl,rfl,rfl,trivial⟩,M⟩
     ·refine gcl A M (ef rfl rfl) (xz (Nu.below hok.num M.bel) hok.len hb26) fun w31 hb30 M a A=>?_;refine sdo (v:=.agg #[bV false,.slice none 0 0,.slice none 0 0,bV false,.slice none 0 0,.slice none 0 0]) A (qt rfl (fun w=>by kernel_rfl)) λa A=>?_;refine sda A λa A=>?_;refine sdo (v:=pA g2 2) A (qb qbj rfl rfl) λa A=>?_;refine za (L':=(.obj g2 (.cells #[iV d.k,iV d.n,bV false,.slice none 0 0,.slice none 0 0,bV false,.slice none 0 0,.slice none 0 0,.string d.s,.slice d.ro d.rl.length d.rc,.slice d.lo ts.length d.lc] 30)::[])) A M rfl rfl (qp rfl rfl rfl (by kernel_rfl) M 0 rfl rfl rfl) 0 rfl rfl rfl ?_;intro w32 M;refine qa ?_;exact hJ6 _ _ ⟨false,d.n,false,none,0,0,none,0,0,false,none,0,0,none,0,0,d.s,d.ro,d.rl.length,d.rc,d.lo,ts.length,d.lc,⟨by
       unfold jf;repeat (first | rw[if_pos (by omega)] | rw[if_neg (by omega)])
       first | rfl | rw[hb26],by first | exact hq1 | decide,by first | exact hq2 | decide,by first | exact hq3 | decide,by first | exact hq4 | decide⟩,A.keep _ ⟨rfl,rfl,rfl,rfl,trivial⟩,M⟩
    ·have hb25':=ne_of_beq_false hb25;refine sdc A qf hb25 λa A=>?_;refine sda A λa A=>?_;refine qa (hK24 _ _ (cf A ?_));refine wsk fun K33 hK33=>wrl ?_;rcases tf ((d.k==4))with hb34 | hb34
     ·have hb34':=eq_of_beq hb34;refine sdc A qf hb34 λa A=>?_;refine sda A λa A=>?_;refine qa (hK33 _ _ (ct A ?_));refine wrl (sdo (v:=pA g2 1) A (qb kw rfl rfl) λa A=>?_);refine sdo A (qw M o93 rfl 0 rfl rfl) λa A=>?_;rcases tf (xd d.n)with hb35 | hb35
      ·refine gcl A M (ef rfl rfl) ((hb35▸qpe)) fun w37 hb36 M a A=>?_;refine sda A λa A=>?_;refine sdo (v:=pA g2 1) A (qb kw rfl rfl) λa A=>?_;refine za (L':=(.obj g2 (.cells #[iV d.k,iV 0,bV d.y.q.b1,.slice d.y.o1 d.y.q.t1.length d.y.c1,.slice d.y.o2 d.y.q.q1.length d.y.c2,bV d.y.q.b2,.slice d.y.o3 d.y.q.t2.length d.y.c3,.slice d.y.o4 d.y.q.q2.length d.y.c4,.string d.s,.slice d.ro d.rl.length d.rc,.slice d.lo ts.length d.lc] 30)::[])) A M rfl rfl (qp rfl rfl rfl (by kernel_rfl) M 0 rfl rfl rfl) 0 rfl rfl rfl ?_;intro w38 M;refine qa ?_;exact hJ6 _ _ ⟨true,0,d.y.q.b1,d.y.o1,d.y.q.t1.length,d.y.c1,d.y.o2,d.y.q.q1.length,d.y.c2,d.y.q.b2,d.y.o3,d.y.q.t2.length,d.y.c3,d.y.o4,d.y.q.q2.length,d.y.c4,d.s,d.ro,d.rl.length,d.rc,d.lo,ts.length,d.lc,⟨by
        unfold jf;repeat (first | rw[if_pos (by omega)] | rw[if_neg (by omega)])
        first | rfl | rw[hb35],by first | exact hq1 | decide,by first | exact hq2 | decide,by first | exact hq3 | decide,by first | exact hq4 | decide⟩,A.keep _ ⟨rfl,rfl,rfl,rfl,trivial⟩,M⟩
      ·refine gcl A M (ef rfl rfl) ((hb35▸qpe)) fun w40 hb39 M a A=>?_;refine sda A λa A=>?_;refine sdo (v:=pA g2 1) A (qb kw rfl rfl) λa A=>?_;refine za (L':=(.obj g2 (.cells #[iV d.k,iV 0,bV d.y.q.b1,.slice d.y.o1 d.y.q.t1.length d.y.c1,.slice d.y.o2 d.y.q.q1.length d.y.c2,bV d.y.q.b2,.slice d.y.o3 d.y.q.t2.length d.y.c3,.slice d.y.o4 d.y.q.q2.length d.y.c4,.string d.s,.slice d.ro d.rl.length d.rc,.slice d.lo ts.length d.lc] 30)::[])) A M rfl rfl (qp rfl rfl rfl (by kernel_rfl) M 0 rfl rfl rfl) 0 rfl rfl rfl ?_;intro w41 M;refine qa ?_;exact hJ6 _ _ ⟨false,0,d.y.q.b1,d.y.o1,d.y.q.t1.length,d.y.c1,d.y.o2,d.y.q.q1.length,d.y.c2,d.y.q.b2,d.y.o3,d.y.q.t2.length,d.y.c3,d.y.o4,d.y.q.q2.length,d.y.c4,d.s,d.ro,d.rl.length,d.rc,d.lo,ts.length,d.lc,⟨by
        unfold jf;repeat (first | rw[if_pos (by omega)] | rw[if_neg (by omega)])
        first | rfl | rw[hb35],by first | exact hq1 | decide,by first | exact hq2 | decide,by first | exact hq3 | decide,by first | exact hq4 | decide⟩,A.keep _ ⟨rfl,rfl,rfl,rfl,trivial⟩,M⟩
     ·have hb34':=ne_of_beq_false hb34;refine sdc A qf hb34 λa A=>?_;refine sda A λa A=>?_;refine qa (hK33 _ _ (cf A ?_));refine wsk fun K42 hK42=>wsk fun K43 hK43=>wrl ?_;rcases tf ((d.k==5))with hb44 | hb44
      ·have hb44':=eq_of_beq hb44;refine sdc A qf hb44 λa A=>?_;refine sda A λa A=>?_;refine qa (hK43 _ _ (ct A ?_));refine wp_skip (hK42 _ _ (ct A ?_));refine wrl (sdo (v:=pA g2 8) A (qb ya rfl rfl) λa A=>?_);refine sdo A (qw M o99 rfl 0 rfl rfl) λa A=>?_;rcases tf (okS d.s)with hb45 | hb45
       ·refine gcl A M (ef rfl rfl) (yb hok.smax (hT.below M.bel) hb45) fun w47 hb46 M a A=>?_;refine sda A λa A=>?_;refine sdo (v:=pA g2 8) A (qb ya rfl rfl) λa A=>?_;refine za (L':=(.obj g2 (.cells #[iV d.k,iV d.n,bV d.y.q.b1,.slice d.y.o1 d.y.q.t1.length d.y.c1,.slice d.y.o2 d.y.q.q1.length d.y.c2,bV d.y.q.b2,.slice d.y.o3 d.y.q.t2.length d.y.c3,.slice d.y.o4 d.y.q.q2.length d.y.c4,.string (⟨#[]⟩),.slice d.ro d.rl.length d.rc,.slice d.lo ts.length d.lc] 30)::[])) A M rfl rfl (qp rfl rfl rfl (by kernel_rfl) M 0 rfl rfl rfl) 0 rfl rfl rfl ?_;intro w48 M;refine qa ?_;exact hJ6 _ _ ⟨true,d.n,d.y.q.b1,d.y.o1,d.y.q.t1.length,d.y.c1,d.y.o2,d.y.q.q1.length,d.y.c2,d.y.q.b2,d.y.o3,d.y.q.t2.length,d.y.c3,d.y.o4,d.y.q.q2.length,d.y.c4,⟨#[]⟩,d.ro,d.rl.length,d.rc,d.lo,ts.length,d.lc,⟨by
         unfold jf;repeat (first | rw[if_pos (by omega)] | rw[if_neg (by omega)])
         first | rfl | rw[hb45],by first | exact hq1 | decide,by first | exact hq2 | decide,by first | exact hq3 | decide,by first | exact hq4 | decide⟩,A.keep _ ⟨rfl,rfl,rfl,rfl,trivial⟩,M⟩
       ·refine gcl A M (ef rfl rfl) (yb hok.smax (hT.below M.bel) hb45) fun w50 hb49 M a A=>?_;refine sda A λa A=>?_;refine sdo (v:=pA g2 8) A (qb ya rfl rfl) λa A=>?_;refine za (L':=(.obj g2 (.cells #[iV d.k,iV d.n,bV d.y.q.b1,.slice d.y.o1 d.y.q.t1.length d.y.c1,.slice d.y.o2 d.y.q.q1.length d.y.c2,bV d.y.q.b2,.slice d.y.o3 d.y.q.t2.length d.y.c3,.slice d.y.o4 d.y.q.q2.length d.y.c4,.string (⟨#[]⟩),.slice d.ro d.rl.length d.rc,.slice d.lo ts.length d.lc] 30)::[])) A M rfl rfl (qp rfl rfl rfl (by kernel_rfl) M 0 rfl rfl rfl) 0 rfl rfl rfl ?_;intro w51 M;refine qa ?_;exact hJ6 _ _ ⟨false,d.n,d.y.q.b1,d.y.o1,d.y.q.t1.length,d.y.c1,d.y.o2,d.y.q.q1.length,d.y.c2,d.y.q.b2,d.y.o3,d.y.q.t2.length,d.y.c3,d.y.o4,d.y.q.q2.length,d.y.c4,⟨#[]⟩,d.ro,d.rl.length,d.rc,d.lo,ts.length,d.lc,⟨by
         unfold jf;repeat (first | rw[if_pos (by omega)] | rw[if_neg (by omega)])
         first | rfl | rw[hb45],by first | exact hq1 | decide,by first | exact hq2 | decide,by first | exact hq3 | decide,by first | exact hq4 | decide⟩,A.keep _ ⟨rfl,rfl,rfl,rfl,trivial⟩,M⟩
      ·have hb44':=ne_of_beq_false hb44;refine sdc A qf hb44 λa A=>?_;refine sda A λa A=>?_;refine qa (hK43 _ _ (cf A ?_));refine wsk fun K52 hK52=>wrl ?_;rcases tf ((d.k==6))with hb53 | hb53
       ·have hb53':=eq_of_beq hb53;refine sdc A qf hb53 λa A=>?_;refine sda A λa A=>?_;refine qa (hK52 _ _ (ct A ?_));refine wp_skip (hK42 _ _ (ct A ?_));refine wrl (sdo (v:=pA g2 8) A (qb ya rfl rfl) λa A=>?_);refine sdo A (qw M o99 rfl 0 rfl rfl) λa A=>?_;rcases tf (okS d.s)with hb54 | hb54
        ·refine gcl A M (ef rfl rfl) (yb hok.smax (hT.below M.bel) hb54) fun w56 hb55 M a A=>?_;refine sda A λa A=>?_;refine sdo (v:=pA g2 8) A (qb ya rfl rfl) λa A=>?_;refine za (L':=(.obj g2 (.cells #[iV d.k,iV d.n,bV d.y.q.b1,.slice d.y.o1 d.y.q.t1.length d.y.c1,.slice d.y.o2 d.y.q.q1.length d.y.c2,bV d.y.q.b2,.slice d.y.o3 d.y.q.t2.length d.y.c3,.slice d.y.o4 d.y.q.q2.length d.y.c4,.string (⟨#[]⟩),.slice d.ro d.rl.length d.rc,.slice d.lo ts.length d.lc] 30)::[])) A M rfl rfl (qp rfl rfl rfl (by kernel_rfl) M 0 rfl rfl rfl) 0 rfl rfl rfl ?_;intro w57 M;refine qa ?_;exact hJ6 _ _ ⟨true,d.n,d.y.q.b1,d.y.o1,d.y.q.t1.length,d.y.c1,d.y.o2,d.y.q.q1.length,d.y.c2,d.y.q.b2,d.y.o3,d.y.q.t2.length,d.y.c3,d.y.o4,d.y.q.q2.length,d.y.c4,⟨#[]⟩,d.ro,d.rl.length,d.rc,d.lo,ts.length,d.lc,⟨by
          unfold jf;repeat (first | rw[if_pos (by omega)] | rw[if_neg (by omega)])
          first | rfl | rw[hb54],by first | exact hq1 | decide,by first | exact hq2 | decide,by first | exact hq3 | decide,by first | exact hq4 | decide⟩,A.keep _ ⟨rfl,rfl,rfl,rfl,trivial⟩,M⟩
        ·refine gcl A M (ef rfl rfl) (yb hok.smax (hT.below M.bel) hb54) fun w59 hb58 M a A=>?_;refine sda A λa A=>?_;refine sdo (v:=pA g2 8) A (qb ya rfl rfl) λa A=>?_;refine za (L':=(.obj g2 (.cells #[iV d.k,iV d.n,bV d.y.q.b1,.slice d.y.o1 d.y.q.t1.length d.y.c1,.slice d.y.o2 d.y.q.q1.length d.y.c2,bV d.y.q.b2,.slice d.y.o3 d.y.q.t2.length d.y.c3,.slice d.y.o4 d.y.q.q2.length d.y.c4,.string (⟨#[]⟩),.slice d.ro d.rl.length d.rc,.slice d.lo ts.length d.lc] 30)::[])) A M rfl rfl (qp rfl rfl rfl (by kernel_rfl) M 0 rfl rfl rfl) 0 rfl rfl rfl ?_;intro w60 M;refine qa ?_;exact hJ6 _ _ ⟨false,d.n,d.y.q.b1,d.y.o1,d.y.q.t1.length,d.y.c1,d.y.o2,d.y.q.q1.length,d.y.c2,d.y.q.b2,d.y.o3,d.y.q.t2.length,d.y.c3,d.y.o4,d.y.q.q2.length,d.y.c4,⟨#[]⟩,d.ro,d.rl.length,d.rc,d.lo,ts.length,d.lc,⟨by
          unfold jf;repeat (first | rw[if_pos (by omega)] | rw[if_neg (by omega)])
          first | rfl | rw[hb54],by first | exact hq1 | decide,by first | exact hq2 | decide,by first | exact hq3 | decide,by first | exact hq4 | decide⟩,A.keep _ ⟨rfl,rfl,rfl,rfl,trivial⟩,M⟩
       ·have hb53':=ne_of_beq_false hb53;refine sdc A qf hb53 λa A=>?_;refine sda A λa A=>?_;refine qa (hK52 _ _ (cf A ?_));refine wrl ?_;rcases tf ((d.k==11))with hb61 | hb61
        ·have hb61':=eq_of_beq hb61;refine sdc A qf hb61 λa A=>?_;refine sda A λa A=>?_;refine qa (hK42 _ _ (ct A ?_));refine wrl (sdo (v:=pA g2 8) A (qb ya rfl rfl) λa A=>?_);refine sdo A (qw M o99 rfl 0 rfl rfl) λa A=>?_;rcases tf (okS d.s)with hb62 | hb62
         ·refine gcl A M (ef rfl rfl) (yb hok.smax (hT.below M.bel) hb62) fun w64 hb63 M a A=>?_;refine sda A λa A=>?_;refine sdo (v:=pA g2 8) A (qb ya rfl rfl) λa A=>?_;refine za (L':=(.obj g2 (.cells #[iV d.k,iV d.n,bV d.y.q.b1,.slice d.y.o1 d.y.q.t1.length d.y.c1,.slice d.y.o2 d.y.q.q1.length d.y.c2,bV d.y.q.b2,.slice d.y.o3 d.y.q.t2.length d.y.c3,.slice d.y.o4 d.y.q.q2.length d.y.c4,.string (⟨#[]⟩),.slice d.ro d.rl.length d.rc,.slice d.lo ts.length d.lc] 30)::[])) A M rfl rfl (qp rfl rfl rfl (by kernel_rfl) M 0 rfl rfl rfl) 0 rfl rfl rfl ?_;intro w65 M;refine qa ?_;exact hJ6 _ _ ⟨true,d.n,d.y.q.b1,d.y.o1,d.y.q.t1.length,d.y.c1,d.y.o2,d.y.q.q1.length,d.y.c2,d.y.q.b2,d.y.o3,d.y.q.t2.length,d.y.c3,d.y.o4,d.y.q.q2.length,d.y.c4,⟨#[]⟩,d.ro,d.rl.length,d.rc,d.lo,ts.length,d.lc,⟨by
           unfold jf;repeat (first | rw[if_pos (by omega)] | rw[if_neg (by omega)])
           first | rfl | rw[hb62],by first | exact hq1 | decide,by first | exact hq2 | decide,by first | exact hq3 | decide,by first | exact hq4 | decide⟩,A.keep _ ⟨rfl,rfl,rfl,rfl,trivial⟩,M⟩
         ·refine gcl A M (ef rfl rfl) (yb hok.smax (hT.below M.bel) hb62) fun w67 hb66 M a A=>?_;refine sda A λa A=>?_;refine sdo (v:=pA g2 8) A (qb ya rfl rfl) λa A=>?_;refine za (L':=(.obj g2 (.cells #[iV d.k,iV d.n,bV d.y.q.b1,.slice d.y.o1 d.y.q.t1.length d.y.c1,.slice d.y.o2 d.y.q.q1.length d.y.c2,bV d.y.q.b2,.slice d.y.o3 d.y.q.t2.length d.y.c3,.slice d.y.o4 d.y.q.q2.length d.y.c4,.string (⟨#[]⟩),.slice d.ro d.rl.length d.rc,.slice d.lo ts.length d.lc] 30)::[])) A M rfl rfl (qp rfl rfl rfl (by kernel_rfl) M 0 rfl rfl rfl) 0 rfl rfl rfl ?_;intro w68 M;refine qa ?_;exact hJ6 _ _ ⟨false,d.n,d.y.q.b1,d.y.o1,d.y.q.t1.length,d.y.c1,d.y.o2,d.y.q.q1.length,d.y.c2,d.y.q.b2,d.y.o3,d.y.q.t2.length,d.y.c3,d.y.o4,d.y.q.q2.length,d.y.c4,⟨#[]⟩,d.ro,d.rl.length,d.rc,d.lo,ts.length,d.lc,⟨by
           unfold jf;repeat (first | rw[if_pos (by omega)] | rw[if_neg (by omega)])
           first | rfl | rw[hb62],by first | exact hq1 | decide,by first | exact hq2 | decide,by first | exact hq3 | decide,by first | exact hq4 | decide⟩,A.keep _ ⟨rfl,rfl,rfl,rfl,trivial⟩,M⟩
        ·have hb61':=ne_of_beq_false hb61;refine sdc A qf hb61 λa A=>?_;refine sda A λa A=>?_;refine qa (hK42 _ _ (cf A ?_));refine wsk fun K69 hK69=>wrl ?_;rcases tf ((d.k==7))with hb70 | hb70
         ·have hb70':=eq_of_beq hb70;refine sdc A qf hb70 λa A=>?_;refine sda A λa A=>?_;refine qa (hK69 _ _ (ct A ?_));refine wrl (sdo (v:=pA g2 9) A (qb zhe rfl rfl) λa A=>?_);refine za (L':=(.obj g2 (.cells #[iV d.k,iV d.n,bV d.y.q.b1,.slice d.y.o1 d.y.q.t1.length d.y.c1,.slice d.y.o2 d.y.q.q1.length d.y.c2,bV d.y.q.b2,.slice d.y.o3 d.y.q.t2.length d.y.c3,.slice d.y.o4 d.y.q.q2.length d.y.c4,.string d.s,.slice none 0 0,.slice d.lo ts.length d.lc] 30)::[])) A M rfl rfl (qp rfl rfl rfl (by kernel_rfl) M 0 rfl rfl rfl) 0 rfl rfl rfl ?_;intro w71 M;refine qa ?_;exact hJ6 _ _ ⟨true,d.n,d.y.q.b1,d.y.o1,d.y.q.t1.length,d.y.c1,d.y.o2,d.y.q.q1.length,d.y.c2,d.y.q.b2,d.y.o3,d.y.q.t2.length,d.y.c3,d.y.o4,d.y.q.q2.length,d.y.c4,d.s,none,0,0,d.lo,ts.length,d.lc,⟨by
           unfold jf;repeat (first | rw[if_pos (by omega)] | rw[if_neg (by omega)])
           first | rfl,by first | exact hq1 | decide,by first | exact hq2 | decide,by first | exact hq3 | decide,by first | exact hq4 | decide⟩,A.keep _ ⟨rfl,rfl,rfl,rfl,trivial⟩,M⟩
         ·have hb70':=ne_of_beq_false hb70;refine sdc A qf hb70 λa A=>?_;refine sda A λa A=>?_;refine qa (hK69 _ _ (cf A ?_));refine wsk fun K72 hK72=>wrl ?_;rcases tf ((d.k==8))with hb73 | hb73
          ·have hb73':=eq_of_beq hb73;refine sdc A qf hb73 λa A=>?_;refine sda A λa A=>?_;refine qa (hK72 _ _ (ct A ?_));refine wrl (sdo (v:=pA g2 10) A (qb vb rfl rfl) λa A=>?_);refine sdo A (qw M qff rfl 0 rfl rfl) λa A=>?_;refine sdo A (zh Tryz.underlying28 rfl) λa A=>?_;rcases tf ((((ts.length:Nat):Int)==2))with hb74 | hb74
           ·have hb74':=eq_of_beq hb74;refine sdc A qf hb74 λa A=>?_;refine sda A λa A=>?_;refine sdo (v:=pA g2 10) A (qb vb rfl rfl) λa A=>?_;refine za (L':=(.obj g2 (.cells #[iV d.k,iV d.n,bV d.y.q.b1,.slice d.y.o1 d.y.q.t1.length d.y.c1,.slice d.y.o2 d.y.q.q1.length d.y.c2,bV d.y.q.b2,.slice d.y.o3 d.y.q.t2.length d.y.c3,.slice d.y.o4 d.y.q.q2.length d.y.c4,.string d.s,.slice d.ro d.rl.length d.rc,.slice none 0 0] 30)::[])) A M rfl rfl (qp rfl rfl rfl (by kernel_rfl) M 0 rfl rfl rfl) 0 rfl rfl rfl ?_;intro w75 M;refine qa ?_;exact hJ6 _ _ ⟨true,d.n,d.y.q.b1,d.y.o1,d.y.q.t1.length,d.y.c1,d.y.o2,d.y.q.q1.length,d.y.c2,d.y.q.b2,d.y.o3,d.y.q.t2.length,d.y.c3,d.y.o4,d.y.q.q2.length,d.y.c4,d.s,d.ro,d.rl.length,d.rc,none,0,0,⟨by
             unfold jf;repeat (first | rw[if_pos (by omega)] | rw[if_neg (by omega)])
             first | rfl | (rw[decide_eq_true (show(ts.length=2)by omega)]),by first | exact hq1 | decide,by first | exact hq2 | decide,by first | exact hq3 | decide,by first | exact hq4 | decide⟩,A.keep _ ⟨rfl,rfl,rfl,rfl,trivial⟩,M⟩
           ·have hb74':=ne_of_beq_false hb74;refine sdc A qf hb74 λa A=>?_;refine sda A λa A=>?_;refine sdo (v:=pA g2 10) A (qb vb rfl rfl) λa A=>?_;refine za (L':=(.obj g2 (.cells #[iV d.k,iV d.n,bV d.y.q.b1,.slice d.y.o1 d.y.q.t1.length d.y.c1,.slice d.y.o2 d.y.q.q1.length d.y.c2,bV d.y.q.b2,.slice d.y.o3 d.y.q.t2.length d.y.c3,.slice d.y.o4 d.y.q.q2.length d.y.c4,.string d.s,.slice d.ro d.rl.length d.rc,.slice none 0 0] 30)::[])) A M rfl rfl (qp rfl rfl rfl (by kernel_rfl) M 0 rfl rfl rfl) 0 rfl rfl rfl ?_;intro w76 M;refine qa ?_;exact hJ6 _ _ ⟨false,d.n,d.y.q.b1,d.y.o1,d.y.q.t1.length,d.y.c1,d.y.o2,d.y.q.q1.length,d.y.c2,d.y.q.b2,d.y.o3,d.y.q.t2.length,d.y.c3,d.y.o4,d.y.q.q2.length,d.y.c4,d.s,d.ro,d.rl.length,d.rc,none,0,0,⟨by
             unfold jf;repeat (first | rw[if_pos (by omega)] | rw[if_neg (by omega)])
             first | rfl | (rw[decide_eq_false (show ¬(ts.length=2)by omega)]),by first | exact hq1 | decide,by first | exact hq2 | decide,by first | exact hq3 | decide,by first | exact hq4 | decide⟩,A.keep _ ⟨rfl,rfl,rfl,rfl,trivial⟩,M⟩
          ·have hb73':=ne_of_beq_false hb73;refine sdc A qf hb73 λa A=>?_;refine sda A λa A=>?_;refine qa (hK72 _ _ (cf A ?_));refine wsk fun K77 hK77=>wrl ?_;rcases tf ((d.k==9))with hb78 | hb78
           ·have hb78':=eq_of_beq hb78;refine sdc A qf hb78 λa A=>?_;refine sda A λa A=>?_;refine qa (hK77 _ _ (ct A ?_));refine wrl (sdo (v:=pA g2 10) A (qb vb rfl rfl) λa A=>?_);refine za (L':=(.obj g2 (.cells #[iV d.k,iV d.n,bV d.y.q.b1,.slice d.y.o1 d.y.q.t1.length d.y.c1,.slice d.y.o2 d.y.q.q1.length d.y.c2,bV d.y.q.b2,.slice d.y.o3 d.y.q.t2.length d.y.c3,.slice d.y.o4 d.y.q.q2.length d.y.c4,.string d.s,.slice d.ro d.rl.length d.rc,.slice none 0 0] 30)::[])) A M rfl rfl (qp rfl rfl rfl (by kernel_rfl) M 0 rfl rfl rfl) 0 rfl rfl rfl ?_;intro w79 M;refine qa ?_;exact hJ6 _ _ ⟨true,d.n,d.y.q.b1,d.y.o1,d.y.q.t1.length,d.y.c1,d.y.o2,d.y.q.q1.length,d.y.c2,d.y.q.b2,d.y.o3,d.y.q.t2.length,d.y.c3,d.y.o4,d.y.q.q2.length,d.y.c4,d.s,d.ro,d.rl.length,d.rc,none,0,0,⟨by
             unfold jf;repeat (first | rw[if_pos (by omega)] | rw[if_neg (by omega)])
             first | rfl,by first | exact hq1 | decide,by first | exact hq2 | decide,by first | exact hq3 | decide,by first | exact hq4 | decide⟩,A.keep _ ⟨rfl,rfl,rfl,rfl,trivial⟩,M⟩
           ·have hb78':=ne_of_beq_false hb78;refine sdc A qf hb78 λa A=>?_;refine sda A λa A=>?_;refine qa (hK77 _ _ (cf A ?_));refine wrl (sda A λa A=>?_);refine qa ?_;exact hJ6 _ _ ⟨false,d.n,d.y.q.b1,d.y.o1,d.y.q.t1.length,d.y.c1,d.y.o2,d.y.q.q1.length,d.y.c2,d.y.q.b2,d.y.o3,d.y.q.t2.length,d.y.c3,d.y.o4,d.y.q.q2.length,d.y.c4,d.s,d.ro,d.rl.length,d.rc,d.lo,ts.length,d.lc,⟨by
             unfold jf;repeat (first | rw[if_pos (by omega)] | rw[if_neg (by omega)])
             first | rfl,by first | exact hq1 | decide,by first | exact hq2 | decide,by first | exact hq3 | decide,by first | exact hq4 | decide⟩,A.keep _ ⟨rfl,rfl,rfl,rfl,trivial⟩,M⟩
def qfg(l:List UInt8):Option Nat:=(C.puX l).bind fun u=>if(decide (((l.length:Nat):Int)≤8)&&xd ((u:Nat):Int))=true then some u else none
theorem jlf{l:List UInt8}(h:C.puX l=none):qfg l=none:=by unfold qfg; rw[h]; rfl
theorem qph{l:List UInt8}{u:Nat}{b:Bool}(h:C.puX l=some u)(hb:(decide (((l.length:Nat):Int)≤8)&&xd ((u:Nat):Int))=b):qfg l=if b=true then some u else none:=by unfold qfg; rw[h]; show(if _ then _ else _)=_; rw[hb]
theorem jsd{w:World}{l:List UInt8}{u:Nat}(hl:l.length≤1000000000)(hE:C.Er w)(h:C.puX l=some u):Calls Tryz.prog 117 #[.string (tx l),iV 16,iV 32] w fun e w'=>e=.returned (.tuple #[.int .u64 ((u:Nat):Int),.nilIface])∧u≤4294967295∧Below w.heap.size w w':=
 (C.pu_any (tx l) (by rw[xb]; omega) w hE).mono fun e w' ⟨h1,hb⟩=>by
  rw[xl,h]at h1;obtain⟨v,e1,e2,rfl⟩ | ⟨e1,_⟩:=h1
  ·cases e1
   exact⟨rfl,e2,hb⟩
  ·cases e1
theorem jse{w:World}{l:List UInt8}(hl:l.length≤1000000000)(hE:C.Er w)(h:C.puX l=none):Calls Tryz.prog 117 #[.string (tx l),iV 16,iV 32] w fun e w'=>(∃(v:Int) (ty:TypeId) (q:Value),e=.returned (.tuple #[.int .u64 v,.iface ty q]))∧Below w.heap.size w w':=
 (C.pu_any (tx l) (by rw[xb]; omega) w hE).mono fun e w' ⟨h1,hb⟩=>by
  rw[xl,h]at h1;obtain⟨v,e1,e2,rfl⟩ | ⟨e1,h2⟩:=h1
  ·cases e1
  ·exact⟨h2,hb⟩
theorem zng{w:World}{n:Int}{b:Bool}(h:xd n=b):Calls Tryz.prog 43 #[iV n] w fun e w'=>e=.returned (bV b)∧Below w.heap.size w w':=h▸qpe
theorem jfe{P:Program}{t ty:TypeId}{x y:Operand}{q:Value}(h:P.underlying t=some (.interface (P.methodsAt t))):∀w,(do eqGuard .eql t x y (.iface ty q) .nilIface; binOp .eql t (.iface ty q) .nilIface:Sem Value).run P w=.ok (bV false) w:=fun w=>by simp[go_sem,run_eql_held_nil w t ty q h]
theorem zhg{P:Program}{s d:TypeId}(hs:P.underlying s=some (.int .u64))(hd:P.underlying d=some (.int .i64)){n:Int}(h0:0≤n)(h1:n≤4294967295):∀w,(convert s d (.int .u64 n)).run P w=.ok (iV n) w:=fun w=>by
 simp[go_sem,run_underlying hs,run_underlying hd,convert];exact in_i64 (by omega) (by omega)
theorem zhh{P:Program}{s d:TypeId}(hs:P.underlying s=some (.int .u64))(hd:P.underlying d=some (.int .i32)){n:Int}(h0:0≤n)(h1:n≤1114111):∀w,(convert s d (.int .u64 n)).run P w=.ok (.int .i32 n) w:=fun w=>by
 simp[go_sem,run_underlying hs,run_underlying hd,convert];exact in_i32 (by omega) (by omega)
theorem jpe{w:World}{l:List UInt8}(hE:C.Er w)(hl:l.length≤1000000000){u:Nat}(hu:C.puX l=some u):Calls Tryz.prog 90 #[.string (tx l)] w fun e w'=>(e=.panicked flt∧qfg l=none∧Below w.heap.size w w')∨∃c,e=.returned (.int .i32 ((c:Nat):Int))∧(qfg l=some c∧xd ((c:Nat):Int)=true)∧Below w.heap.size w w':=by
 have M:Mg w w ([]):=Mg.start w;refine jr (l:=[(0,.string ((tx l)))]) Tryz.func90 rfl Tryz.ntmps90 rfl rfl ?_;intro Q hret hnorm hP hX a A;refine wsk fun K1 hK1=>wrl (sda A λa A=>?_);refine qa (hK1 _ _ (wsk fun K2 hK2=>wrl (sdm A λa A=>?_)));refine sct A (ef rfl rfl) (jsd (l:=l) (u:=u) (by omega) (hE.below M.bel) hu) ?_;rintro _ w4 ⟨rfl,hul,hb3⟩;replace M:=M.call hb3;refine⟨_,rfl,?_⟩;intro a A;refine sdm A λa A=>?_;iterate 2 refine sdo A (qi (vs:=[.int .u64 (((u:Nat):Int)),.nilIface]) rfl rfl) λa A=>?_
 iterate 2 refine sda A λa A=>?_
 refine qa (hK2 _ _ (wsk fun K5 hK5=>wrl (sdm A λa A=>?_)));refine sdo (v:=bV true) A dbK λa A=>?_;iterate 2 refine sdm A λa A=>?_
 refine sdo (v:=iV (((l.length:Nat):Int))) A (xx (s:=l) Tryz.underlying9 rfl) λa A=>?_;rcases tf (decide (((l.length:Nat):Int)≤8))with hb6 | hb6
 ·have hb6':=of_decide_eq_true hb6;refine sdc A jc hb6 λa A=>?_;refine sdk (v:=bV true) A λa A=>?_;iterate 2 refine sdm A λa A=>?_
  refine sdo (v:=iV (((u:Nat):Int))) A (zq rfl (zhg Tryz.underlying94 Tryz.underlying3 (by omega) (by omega))) λa A=>?_;rcases tf (xd ((u:Nat):Int))with hb8 | hb8
  ·refine sct A (ef rfl rfl) (zng hb8) ?_;rintro _ w10 ⟨rfl,hb9⟩;have hch:=of_decide_eq_true hb8;replace M:=M.call hb9;refine⟨_,rfl,?_⟩;intro a A;refine sdk (v:=bV true) A λa A=>?_;refine gcl A M (ef rfl rfl) (kj) fun w12 hb11 M a A=>?_;refine qa (hK5 _ _ (wsk fun K13 hK13=>wrl (sdm A λa A=>?_)));refine sdo (v:=.int .i32 (((u:Nat):Int))) A (zq rfl (zhh Tryz.underlying94 Tryz.underlying21 (by omega) (by omega))) λa A=>?_;refine sda A λa A=>?_;refine qa (hK13 _ _ (wr1 hret A ?_));exact .inr ⟨u,rfl,⟨by rw[qph hu (b:=true) (by rw[hb6,hb8]; rfl)]; rfl,hb8⟩,M.bel⟩
  ·refine gcl A M (ef rfl rfl) (zng hb8) fun w15 hb14 M a A=>?_;refine sdk (v:=bV false) A λa A=>?_;refine qy A rfl rfl rfl (ef rfl rfl) (vh) ?_;rintro _ w17 ⟨rfl,hp18⟩;exact .inl ⟨_,rfl,hX _ _ _ _ _ A (.inl ⟨rfl,by rw[qph hu (b:=false) (by rw[hb6,hb8]; rfl)]; rfl,M.bel.trans (hp18.mono M.bel.size)⟩)⟩
 ·have hb6':=of_decide_eq_false hb6;refine sdc A jc hb6 λa A=>?_;refine sdk (v:=bV false) A λa A=>?_;refine sdm A λa A=>?_;iterate 3 refine qg A rfl rfl rfl λa A=>?_
  refine sdk (v:=bV false) A λa A=>?_;refine qy A rfl rfl rfl (ef rfl rfl) (vh) ?_;rintro _ w20 ⟨rfl,hp21⟩;exact .inl ⟨_,rfl,hX _ _ _ _ _ A (.inl ⟨rfl,by rw[qph hu (b:=false) (by rw[hb6]; rfl)]; rfl,M.bel.trans (hp21.mono M.bel.size)⟩)⟩
theorem jpf{w:World}{l:List UInt8}(hE:C.Er w)(hl:l.length≤1000000000)(hu:C.puX l=none):Calls Tryz.prog 90 #[.string (tx l)] w fun e w'=>(e=.panicked flt∧qfg l=none∧Below w.heap.size w w')∨∃c,e=.returned (.int .i32 ((c:Nat):Int))∧(qfg l=some c∧xd ((c:Nat):Int)=true)∧Below w.heap.size w w':=by
 have M:Mg w w ([]):=Mg.start w;refine jr (l:=[(0,.string ((tx l)))]) Tryz.func90 rfl Tryz.ntmps90 rfl rfl ?_;intro Q hret hnorm hP hX a A;refine wsk fun K1 hK1=>wrl (sda A λa A=>?_);refine qa (hK1 _ _ (wsk fun K2 hK2=>wrl (sdm A λa A=>?_)));refine sct A (ef rfl rfl) (jse (l:=l) (by omega) (hE.below M.bel) hu) ?_;rintro _ w4 ⟨⟨v,ty,q,rfl⟩,hb3⟩;replace M:=M.call hb3;refine⟨_,rfl,?_⟩;intro a A;refine sdm A λa A=>?_;iterate 2 refine sdo A (qi (vs:=[.int .u64 v,.iface ty q]) rfl rfl) λa A=>?_
 iterate 2 refine sda A λa A=>?_
 refine qa (hK2 _ _ (wsk fun K5 hK5=>wrl (sdm A λa A=>?_)));refine sdo (v:=bV false) A (qe rfl rfl (jfe Tryz.underlying85)) λa A=>?_;refine sdm A λa A=>?_;iterate 3 refine qg A rfl rfl rfl λa A=>?_
 refine sdk (v:=bV false) A λa A=>?_;refine sdm A λa A=>?_;iterate 3 refine qg A rfl rfl rfl λa A=>?_
 refine sdk (v:=bV false) A λa A=>?_;refine qy A rfl rfl rfl (ef rfl rfl) (vh) ?_;rintro _ w7 ⟨rfl,hp8⟩;exact .inl ⟨_,rfl,hX _ _ _ _ _ A (.inl ⟨rfl,jlf hu,M.bel.trans (hp8.mono M.bel.size)⟩)⟩
theorem znh{w:World}{l:List UInt8}(hE:C.Er w)(hl:l.length≤1000000000):Calls Tryz.prog 90 #[.string (tx l)] w fun e w'=>(e=.panicked flt∧qfg l=none∧Below w.heap.size w w')∨∃c,e=.returned (.int .i32 ((c:Nat):Int))∧(qfg l=some c∧xd ((c:Nat):Int)=true)∧Below w.heap.size w w':=by
 cases hu:C.puX l with
 | none => exact jpf hE hl hu
 | some u => exact jpe hE hl hu
structure Env(w:World):Prop where
 tb:Tb w
 er:C.Er w
 mx:∃m:Int,w.cell? ⟨Tryz.lays145_ren.g 1,0,none⟩=some (iV m)
theorem Env.below{w w':World}(h:Env w)(hb:Below w.heap.size w w'):Env w':=
 ⟨h.tb.below hb,h.er.below hb,h.mx.elim fun m hm=>⟨m,(hb.cell (show(⟨_,0,none⟩:Addr).block<w.heap.size from Lib.lt_of_cell hm)).trans hm⟩⟩
def smI(l:List UInt8):Option Nat:=if 0≤Lib.index l [59]then some (Lib.index l [59]).toNat else none
theorem jlg{l:List UInt8}{n:Nat}(h:smI l=some n):n+1≤l.length:=by
 unfold smI at h;by_cases h0:0≤Lib.index l [59]
 ·rw[if_pos h0]at h;have:=Lib.index_room l [59] h0;cases h
  simp at this;omega
 ·rw[if_neg h0]at h;cases h
theorem qli(w:World):∀n,Below w.heap.size w (w.drewN n):=fun n=>by
 induction n with
 | zero => exact Below.refl _ _
 | succ n ih => exact ih.drew
theorem jpg{w:World}{l:List UInt8}{n:Nat}(hN:Env w)(hl:l.length≤1000000000)(h:smI l=some n):Calls Tryz.prog 112 #[.string (tx l),.string (tx [59])] w fun e w'=>e=.returned (.tuple #[.string (tx (l.take n)),.string (tx (l.drop (n+1))),bV true])∧Below w.heap.size w w':=by
 obtain⟨m,hm⟩:=hN.mx;refine(Tryz.strings_Cut (tx l) (tx [59]) m w (by rw[xb]; omega) hm).mono ?_;rintro e w' ⟨rfl,k,rfl⟩;refine⟨?_,qli w k⟩;unfold smI at h;by_cases h0:0≤Lib.index l [59]
 ·rw[if_pos h0]at h;cases h
  rw[xl,xl,show Lib.cut l [59]=(l.take (Lib.index l [59]).toNat,l.drop ((Lib.index l [59]).toNat+1),true)from if_pos h0];rfl
 ·rw[if_neg h0]at h;cases h
theorem jph{w:World}{l:List UInt8}(hN:Env w)(hl:l.length≤1000000000)(h:smI l=none):Calls Tryz.prog 112 #[.string (tx l),.string (tx [59])] w fun e w'=>e=.returned (.tuple #[.string (tx l),.string (tx []),bV false])∧Below w.heap.size w w':=by
 obtain⟨m,hm⟩:=hN.mx;refine(Tryz.strings_Cut (tx l) (tx [59]) m w (by rw[xb]; omega) hm).mono ?_;rintro e w' ⟨rfl,k,rfl⟩;refine⟨?_,qli w k⟩;unfold smI at h;by_cases h0:0≤Lib.index l [59]
 ·rw[if_pos h0]at h;cases h
 ·rw[xl,xl,show Lib.cut l [59]=(l,[],false)from if_neg h0];rfl
def dgX(l:List UInt8):Option (Nat×Nat):=(smI l).bind fun n=>(qfg (l.take n)).map fun c=>(c,n+1)
theorem jff{l:List UInt8}(h:smI l=none):dgX l=none:=by unfold dgX; rw[h]; rfl
theorem zni{l:List UInt8}{n:Nat}{r:Option Nat}(h:smI l=some n)(h2:qfg (l.take n)=r):dgX l=r.map fun c=>(c,n+1):=by unfold dgX; rw[h]; show(qfg (l.take n)).map _=_; rw[h2]
theorem zhi{P:Program}{w:World}{l:List (Nat×Value)}{dst:Option Tmp}{ty u:TypeId}{pos:String}{after:Array Edge}{guard:Option (Nat×Bool)}{x:Operand}{s:List UInt8}{n:Nat}(hu:P.underlying u=some .string)(hx:ev l x=some (.string (tx s)))(hn:s.length=n):Does P l ⟨dst,.call ⟨.builtin .len,#[x],#[u]⟩,ty,pos,after,guard⟩ w (iV ((n:Nat):Int)) w:=hn▸xx hu hx
theorem zxe{w0 w:World}{g p:Nat}{lg:Bool}{L:List UInt8}{T:List Ck}(hN:Env w0)(hp:p≤L.length)(hl:L.length≤1000000000){n:Nat}(hs:smI (L.drop p)=some n)(hM0:Mg w0 w (.obj g (rC L p lg)::T)):Calls Tryz.prog 82 #[pA g 0] w fun e w'=>(e=.panicked flt∧dgX (L.drop p)=none∧∃q,q≤L.length∧Mg w0 w' (.obj g (rC L q lg)::T))∨∃c n,e=.returned (.int .i32 ((c:Nat):Int))∧(dgX (L.drop p)=some (c,n)∧p+n≤L.length∧xd ((c:Nat):Int)=true)∧Mg w0 w' (.obj g (rC L (p+n) lg)::T):=by
 have hsl:=jlg hs;rw[List.length_drop]at hsl;have hln:((L.drop p).take n).length=n:=by rw[List.length_take,List.length_drop]; omega
 have M:Mg w0 w (.obj g (rC L p lg)::T):=hM0;refine jr (l:=[(0,pA g 0)]) Tryz.func82 rfl Tryz.ntmps82 rfl rfl ?_;intro Q hret hnorm hP hX a A;refine wsk fun K1 hK1=>wrl (sda A λa A=>?_);refine qa (hK1 _ _ (wsk fun K2 hK2=>wrl (sdm A λa A=>?_)));refine sct A (ef rfl rfl) (xm (p:=p) (L:=L) (T:=(T)) (by omega) M) ?_;rintro _ w4 ⟨rfl,hM3⟩;replace M:Mg w0 w4 (.obj g (rC L p lg)::T):=hM3;refine⟨_,rfl,?_⟩;intro a A;refine gcl A M (ef rfl rfl) (jpg (l:=L.drop p) (n:=n) (hN.below M.bel) (by rw[List.length_drop]; omega) hs) fun w6 hb5 M a A=>?_;refine sdm A λa A=>?_;iterate 3 refine sdo A (qi (vs:=[.string ((tx ((L.drop p).take n))),.string ((tx ((L.drop p).drop (n+1)))),bV true]) rfl rfl) λa A=>?_
 iterate 3 refine sda A λa A=>?_
 refine qa (hK2 _ _ (wsk fun K7 hK7=>wrl (sdm A λa A=>?_)));refine gcl A M (ef rfl rfl) (kj) fun w9 hb8 M a A=>?_;refine qa (hK7 _ _ (wsk fun K10 hK10=>wrl (sdm A λa A=>?_)));refine sdo A (ja rfl) λa A=>?_;refine sdo (v:=pA g 1) A (qb uy rfl rfl) λa A=>?_;refine sdo A (qw M o93 rfl 0 rfl rfl) λa A=>?_;refine sdm A λa A=>?_;refine sdo (v:=iV (((n:Nat):Int))) A (zhi (s:=(L.drop p).take n) Tryz.underlying9 rfl hln) λa A=>?_;refine sdo (v:=iV (((n+1:Nat):Int))) A (qe rfl rfl (ar_add ((in_i64 (by omega) (by omega)).trans (by omega)))) λa A=>?_;refine sdo (v:=iV (((p+n+1:Nat):Int))) A (qe rfl rfl (ar_add ((in_i64 (by omega) (by omega)).trans (by omega)))) λa A=>?_;refine sdo A (ja rfl) λa A=>?_;refine sdo (v:=pA g 1) A (qb uy rfl rfl) λa A=>?_;refine za (L':=(.obj g (rC L (p+n+1) lg)::T)) A M rfl rfl (qp rfl rfl rfl (by kernel_rfl) M 0 rfl rfl rfl) 0 rfl rfl rfl ?_;intro w11 M;refine qa (hK10 _ _ (wsk fun K12 hK12=>wrl (sdm A λa A=>?_)));refine qy A rfl rfl rfl (ef rfl rfl) (znh (l:=(L.drop p).take n) (hN.below M.bel).er (by omega)) ?_;rintro _ w14 (⟨rfl,hp15⟩ | ⟨c,rfl,⟨hc,hcc⟩,hb13⟩)
 ·exact .inl ⟨_,rfl,hX _ _ _ _ _ A (.inl ⟨rfl,by rw[zni hs hp15.1]; rfl,_,by omega,M.call hp15.2⟩)⟩
 replace M:=M.call hb13;refine .inr ⟨_,rfl,?_⟩;intro a A;refine sda A λa A=>?_;refine qa (hK12 _ _ (wr1 hret A ?_));exact .inr ⟨c,n+1,rfl,⟨by rw[zni hs hc]; rfl,by omega,hcc⟩,M⟩
theorem zxf{w0 w:World}{g p:Nat}{lg:Bool}{L:List UInt8}{T:List Ck}(hN:Env w0)(hp:p≤L.length)(hl:L.length≤1000000000)(hs:smI (L.drop p)=none)(hM0:Mg w0 w (.obj g (rC L p lg)::T)):Calls Tryz.prog 82 #[pA g 0] w fun e w'=>(e=.panicked flt∧dgX (L.drop p)=none∧∃q,q≤L.length∧Mg w0 w' (.obj g (rC L q lg)::T))∨∃c n,e=.returned (.int .i32 ((c:Nat):Int))∧(dgX (L.drop p)=some (c,n)∧p+n≤L.length∧xd ((c:Nat):Int)=true)∧Mg w0 w' (.obj g (rC L (p+n) lg)::T):=by
 have M:Mg w0 w (.obj g (rC L p lg)::T):=hM0;refine jr (l:=[(0,pA g 0)]) Tryz.func82 rfl Tryz.ntmps82 rfl rfl ?_;intro Q hret hnorm hP hX a A;refine wsk fun K1 hK1=>wrl (sda A λa A=>?_);refine qa (hK1 _ _ (wsk fun K2 hK2=>wrl (sdm A λa A=>?_)));refine sct A (ef rfl rfl) (xm (p:=p) (L:=L) (T:=(T)) (by omega) M) ?_;rintro _ w4 ⟨rfl,hM3⟩;replace M:Mg w0 w4 (.obj g (rC L p lg)::T):=hM3;refine⟨_,rfl,?_⟩;intro a A;refine gcl A M (ef rfl rfl) (jph (l:=L.drop p) (hN.below M.bel) (by rw[List.length_drop]; omega) hs) fun w6 hb5 M a A=>?_;refine sdm A λa A=>?_;iterate 3 refine sdo A (qi (vs:=[.string ((tx (L.drop p))),.string ((tx ([]))),bV false]) rfl rfl) λa A=>?_
 iterate 3 refine sda A λa A=>?_
 refine qa (hK2 _ _ (wsk fun K7 hK7=>wrl (sdm A λa A=>?_)));refine qy A rfl rfl rfl (ef rfl rfl) (vh) ?_;rintro _ w9 ⟨rfl,hp10⟩;exact .inl ⟨_,rfl,hX _ _ _ _ _ A (.inl ⟨rfl,jff hs,_,hp,M.call hp10⟩)⟩
theorem qpi{w0 w:World}{g p:Nat}{lg:Bool}{L:List UInt8}{T:List Ck}(hN:Env w0)(hp:p≤L.length)(hl:L.length≤1000000000)(hM0:Mg w0 w (.obj g (rC L p lg)::T)):Calls Tryz.prog 82 #[pA g 0] w fun e w'=>(e=.panicked flt∧dgX (L.drop p)=none∧∃q,q≤L.length∧Mg w0 w' (.obj g (rC L q lg)::T))∨∃c n,e=.returned (.int .i32 ((c:Nat):Int))∧(dgX (L.drop p)=some (c,n)∧p+n≤L.length∧xd ((c:Nat):Int)=true)∧Mg w0 w' (.obj g (rC L (p+n) lg)::T):=by
 cases hs:smI (L.drop p)with
 | none => exact zxf hN hp hl hs hM0
 | some n => exact zxe hN hp hl hs hM0
def esX(l:List UInt8):Option (Nat×Nat):=if l.isEmpty=true then none else if(((dcX l).1:Nat):Int)=97 then some (7,(dcX l).2)else if(((dcX l).1:Nat):Int)=98 then some (8,(dcX l).2)else if(((dcX l).1:Nat):Int)=116 then some (9,(dcX l).2)else if(((dcX l).1:Nat):Int)=110 then some (10,(dcX l).2)else if(((dcX l).1:Nat):Int)=118 then some (11,(dcX l).2)else if(((dcX l).1:Nat):Int)=102 then some (12,(dcX l).2)else if(((dcX l).1:Nat):Int)=114 then some (13,(dcX l).2)else if(((dcX l).1:Nat):Int)=120 then(dgX (l.drop (dcX l).2)).map (fun r=>(r.1,(dcX l).2+r.2))else if(((dcX l).1:Nat):Int)=34 then some ((dcX l).1,(dcX l).2)else if(((dcX l).1:Nat):Int)=92 then some ((dcX l).1,(dcX l).2)else none
theorem zag{w0 w:World}{g p:Nat}{lg:Bool}{L:List UInt8}{T:List Ck}(hN:Env w0)(hp:p≤L.length)(hl:L.length≤1000000000)(hM0:Mg w0 w (.obj g (rC L p lg)::T)):Calls Tryz.prog 58 #[pA g 0] w fun e w'=>(e=.panicked flt∧esX (L.drop p)=none∧∃q,q≤L.length∧Mg w0 w' (.obj g (rC L q lg)::T))∨∃c n,e=.returned (.int .i32 ((c:Nat):Int))∧(esX (L.drop p)=some (c,n)∧p+n≤L.length∧xd ((c:Nat):Int)=true)∧Mg w0 w' (.obj g (rC L (p+n) lg)::T):=by
 have hT:=hN.tb;have M:Mg w0 w (.obj g (rC L p lg)::T):=hM0;refine jr (l:=[(0,pA g 0)]) Tryz.func58 rfl Tryz.ntmps58 rfl rfl ?_;intro Q hret hnorm hP hX a A;refine wsk fun K1 hK1=>wrl (sda A λa A=>?_);refine qa (hK1 _ _ (wsk fun K2 hK2=>wrl (sdm A λa A=>?_)));rcases tf ((L.drop p).isEmpty)with hb3 | hb3
 ·refine qy A rfl rfl rfl (ef rfl rfl) (qog (p:=p) (L:=L) (T:=(T)) hT (by omega) (by omega) (List.isEmpty_iff.1 hb3) M) ?_;rintro _ w4 ⟨rfl,hp5⟩;exact .inl ⟨_,rfl,hX _ _ _ _ _ A (.inl ⟨rfl,by unfold esX; rw[if_pos hb3],_,by omega,hp5⟩)⟩
 ·have hne9:(L.drop p)≠[]:=fun k=>by rw[k]at hb3; cases hb3
  obtain⟨hw7,hw8⟩:=vp hne9;rw[List.length_drop]at hw8;refine sct A (ef rfl rfl) (qnb (p:=p) (L:=L) (T:=(T)) hT (by omega) (by omega) hne9 M) ?_;rintro _ w10 ⟨rfl,hM6⟩;replace M:Mg w0 w10 (.obj g (rC L (p+(dcX (L.drop p)).2) lg)::T):=hM6;refine⟨_,rfl,?_⟩;intro a A;refine sda A λa A=>?_;refine qa (hK2 _ _ (wsk fun K11 hK11=>wsk fun K12 hK12=>wrl (sdm A λa A=>?_)));refine qa (hK12 _ _ (wp_block (wsk fun K13 hK13=>wrl ?_)));rcases tf (((((dcX (L.drop p)).1:Nat):Int)==97))with hb14 | hb14
  ·have hb14':=eq_of_beq hb14;refine sdc A qf hb14 λa A=>?_;refine sda A λa A=>?_;refine qa (hK13 _ _ (ct A ?_));refine wsk fun K15 hK15=>wrl (sda A λa A=>?_);refine qa (hK15 _ _ (wr1 hret A ?_));exact .inr ⟨7,_,rfl,⟨by unfold esX; rw[if_neg (by rw[hb3]; decide),if_pos (eq_of_beq hb14)],by omega,by decide⟩,M⟩
  ·have hb14':=ne_of_beq_false hb14;refine sdc A qf hb14 λa A=>?_;refine sda A λa A=>?_;refine qa (hK13 _ _ (cf A ?_));refine wsk fun K16 hK16=>wrl ?_;rcases tf (((((dcX (L.drop p)).1:Nat):Int)==98))with hb17 | hb17
   ·have hb17':=eq_of_beq hb17;refine sdc A qf hb17 λa A=>?_;refine sda A λa A=>?_;refine qa (hK16 _ _ (ct A ?_));refine wsk fun K18 hK18=>wrl (sda A λa A=>?_);refine qa (hK18 _ _ (wr1 hret A ?_));exact .inr ⟨8,_,rfl,⟨by unfold esX; rw[if_neg (by rw[hb3]; decide),if_neg (ne_of_beq_false hb14),if_pos (eq_of_beq hb17)],by omega,by decide⟩,M⟩
   ·have hb17':=ne_of_beq_false hb17;refine sdc A qf hb17 λa A=>?_;refine sda A λa A=>?_;refine qa (hK16 _ _ (cf A ?_));refine wsk fun K19 hK19=>wrl ?_;rcases tf (((((dcX (L.drop p)).1:Nat):Int)==116))with hb20 | hb20
    ·have hb20':=eq_of_beq hb20;refine sdc A qf hb20 λa A=>?_;refine sda A λa A=>?_;refine qa (hK19 _ _ (ct A ?_));refine wsk fun K21 hK21=>wrl (sda A λa A=>?_);refine qa (hK21 _ _ (wr1 hret A ?_));exact .inr ⟨9,_,rfl,⟨by unfold esX; rw[if_neg (by rw[hb3]; decide),if_neg (ne_of_beq_false hb14),if_neg (ne_of_beq_false hb17),if_pos (eq_of_beq hb20)],by omega,by decide⟩,M⟩
    ·have hb20':=ne_of_beq_false hb20;refine sdc A qf hb20 λa A=>?_;refine sda A λa A=>?_;refine qa (hK19 _ _ (cf A ?_));refine wsk fun K22 hK22=>wrl ?_;rcases tf (((((dcX (L.drop p)).1:Nat):Int)==110))with hb23 | hb23
     ·have hb23':=eq_of_beq hb23;refine sdc A qf hb23 λa A=>?_;refine sda A λa A=>?_;refine qa (hK22 _ _ (ct A ?_));refine wsk fun K24 hK24=>wrl (sda A λa A=>?_);refine qa (hK24 _ _ (wr1 hret A ?_));exact .inr ⟨10,_,rfl,⟨by unfold esX; rw[if_neg (by rw[hb3]; decide),if_neg (ne_of_beq_false hb14),if_neg (ne_of_beq_false hb17),if_neg (ne_of_beq_false hb20),if_pos (eq_of_beq hb23)],by omega,by decide⟩,M⟩
     ·have hb23':=ne_of_beq_false hb23;refine sdc A qf hb23 λa A=>?_;refine sda A λa A=>?_;refine qa (hK22 _ _ (cf A ?_));refine wsk fun K25 hK25=>wrl ?_;rcases tf (((((dcX (L.drop p)).1:Nat):Int)==118))with hb26 | hb26
      ·have hb26':=eq_of_beq hb26;refine sdc A qf hb26 λa A=>?_;refine sda A λa A=>?_;refine qa (hK25 _ _ (ct A ?_));refine wsk fun K27 hK27=>wrl (sda A λa A=>?_);refine qa (hK27 _ _ (wr1 hret A ?_));exact .inr ⟨11,_,rfl,⟨by unfold esX; rw[if_neg (by rw[hb3]; decide),if_neg (ne_of_beq_false hb14),if_neg (ne_of_beq_false hb17),if_neg (ne_of_beq_false hb20),if_neg (ne_of_beq_false hb23),if_pos (eq_of_beq hb26)],by omega,by decide⟩,M⟩
      ·have hb26':=ne_of_beq_false hb26;refine sdc A qf hb26 λa A=>?_;refine sda A λa A=>?_;refine qa (hK25 _ _ (cf A ?_));refine wsk fun K28 hK28=>wrl ?_;rcases tf (((((dcX (L.drop p)).1:Nat):Int)==102))with hb29 | hb29
       ·have hb29':=eq_of_beq hb29;refine sdc A qf hb29 λa A=>?_;refine sda A λa A=>?_;refine qa (hK28 _ _ (ct A ?_));refine wsk fun K30 hK30=>wrl (sda A λa A=>?_);refine qa (hK30 _ _ (wr1 hret A ?_));exact .inr ⟨12,_,rfl,⟨by unfold esX; rw[if_neg (by rw[hb3]; decide),if_neg (ne_of_beq_false hb14),if_neg (ne_of_beq_false hb17),if_neg (ne_of_beq_false hb20),if_neg (ne_of_beq_false hb23),if_neg (ne_of_beq_false hb26),if_pos (eq_of_beq hb29)],by omega,by decide⟩,M⟩
       ·have hb29':=ne_of_beq_false hb29;refine sdc A qf hb29 λa A=>?_;refine sda A λa A=>?_;refine qa (hK28 _ _ (cf A ?_));refine wsk fun K31 hK31=>wrl ?_;rcases tf (((((dcX (L.drop p)).1:Nat):Int)==114))with hb32 | hb32
        ·have hb32':=eq_of_beq hb32;refine sdc A qf hb32 λa A=>?_;refine sda A λa A=>?_;refine qa (hK31 _ _ (ct A ?_));refine wsk fun K33 hK33=>wrl (sda A λa A=>?_);refine qa (hK33 _ _ (wr1 hret A ?_));exact .inr ⟨13,_,rfl,⟨by unfold esX; rw[if_neg (by rw[hb3]; decide),if_neg (ne_of_beq_false hb14),if_neg (ne_of_beq_false hb17),if_neg (ne_of_beq_false hb20),if_neg (ne_of_beq_false hb23),if_neg (ne_of_beq_false hb26),if_neg (ne_of_beq_false hb29),if_pos (eq_of_beq hb32)],by omega,by decide⟩,M⟩
        ·have hb32':=ne_of_beq_false hb32;refine sdc A qf hb32 λa A=>?_;refine sda A λa A=>?_;refine qa (hK31 _ _ (cf A ?_));refine wsk fun K34 hK34=>wrl ?_;rcases tf (((((dcX (L.drop p)).1:Nat):Int)==120))with hb35 | hb35
         ·have hb35':=eq_of_beq hb35;refine sdc A qf hb35 λa A=>?_;refine sda A λa A=>?_;refine qa (hK34 _ _ (ct A ?_));refine wsk fun K36 hK36=>wrl (sdm A λa A=>?_);refine qy A rfl rfl rfl (ef rfl rfl) (qpi (p:=p+(dcX (L.drop p)).2) (L:=L) (T:=(T)) hN (by omega) (by omega) M) ?_;rintro _ w38 (⟨rfl,hp39⟩ | ⟨c,n,rfl,⟨hc,hcl,hcc⟩,hM37⟩)
          ·exact .inl ⟨_,rfl,hX _ _ _ _ _ A (.inl ⟨rfl,by unfold esX; rw[if_neg (by rw[hb3]; decide),if_neg (ne_of_beq_false hb14),if_neg (ne_of_beq_false hb17),if_neg (ne_of_beq_false hb20),if_neg (ne_of_beq_false hb23),if_neg (ne_of_beq_false hb26),if_neg (ne_of_beq_false hb29),if_neg (ne_of_beq_false hb32),if_pos (eq_of_beq hb35)]; rw[List.drop_drop,hp39.1]; rfl,hp39.2⟩)⟩
          replace M:Mg w0 w38 (.obj g (rC L (p+(dcX (L.drop p)).2+n) lg)::T):=hM37;refine .inr ⟨_,rfl,?_⟩;intro a A;refine sda A λa A=>?_;refine qa (hK36 _ _ (wr1 hret A ?_));exact .inr ⟨c,_,rfl,⟨by unfold esX; rw[if_neg (by rw[hb3]; decide),if_neg (ne_of_beq_false hb14),if_neg (ne_of_beq_false hb17),if_neg (ne_of_beq_false hb20),if_neg (ne_of_beq_false hb23),if_neg (ne_of_beq_false hb26),if_neg (ne_of_beq_false hb29),if_neg (ne_of_beq_false hb32),if_pos (eq_of_beq hb35)]; rw[List.drop_drop,hc]; rfl,by omega,hcc⟩,by rw[←Nat.add_assoc]; exact M⟩
         ·have hb35':=ne_of_beq_false hb35;refine sdc A qf hb35 λa A=>?_;refine sda A λa A=>?_;refine qa (hK34 _ _ (cf A ?_));refine wp_skip (hK11 _ _ (wsk fun K40 hK40=>wrl (sdm A λa A=>?_)));rcases tf (((((dcX (L.drop p)).1:Nat):Int)==34))with hb41 | hb41
          ·have hb41':=eq_of_beq hb41;refine sdc A qf hb41 λa A=>?_;refine sdm A λa A=>?_;iterate 2 refine qg A rfl rfl rfl λa A=>?_
           refine sdk (v:=bV true) A λa A=>?_;refine gcl A M (ef rfl rfl) (kj) fun w43 hb42 M a A=>?_;refine qa (hK40 _ _ (wsk fun K44 hK44=>wrl (sdm A λa A=>?_)));refine sda A λa A=>?_;refine qa (hK44 _ _ (wr1 hret A ?_));exact .inr ⟨_,_,rfl,⟨by unfold esX; rw[if_neg (by rw[hb3]; decide),if_neg (ne_of_beq_false hb14),if_neg (ne_of_beq_false hb17),if_neg (ne_of_beq_false hb20),if_neg (ne_of_beq_false hb23),if_neg (ne_of_beq_false hb26),if_neg (ne_of_beq_false hb29),if_neg (ne_of_beq_false hb32),if_neg (ne_of_beq_false hb35),if_pos (eq_of_beq hb41)],by omega,by rw[eq_of_beq hb41]; decide⟩,M⟩
          ·have hb41':=ne_of_beq_false hb41;refine sdc A qf hb41 λa A=>?_;iterate 2 refine sdm A λa A=>?_
           rcases tf (((((dcX (L.drop p)).1:Nat):Int)==92))with hb45 | hb45
           ·have hb45':=eq_of_beq hb45;refine sdc A qf hb45 λa A=>?_;refine sdk (v:=bV true) A λa A=>?_;refine gcl A M (ef rfl rfl) (kj) fun w47 hb46 M a A=>?_;refine qa (hK40 _ _ (wsk fun K48 hK48=>wrl (sdm A λa A=>?_)));refine sda A λa A=>?_;refine qa (hK48 _ _ (wr1 hret A ?_));exact .inr ⟨_,_,rfl,⟨by unfold esX; rw[if_neg (by rw[hb3]; decide),if_neg (ne_of_beq_false hb14),if_neg (ne_of_beq_false hb17),if_neg (ne_of_beq_false hb20),if_neg (ne_of_beq_false hb23),if_neg (ne_of_beq_false hb26),if_neg (ne_of_beq_false hb29),if_neg (ne_of_beq_false hb32),if_neg (ne_of_beq_false hb35),if_neg (ne_of_beq_false hb41),if_pos (eq_of_beq hb45)],by omega,by rw[eq_of_beq hb45]; decide⟩,M⟩
           ·have hb45':=ne_of_beq_false hb45;refine sdc A qf hb45 λa A=>?_;refine sdk (v:=bV false) A λa A=>?_;refine qy A rfl rfl rfl (ef rfl rfl) (vh) ?_;rintro _ w50 ⟨rfl,hp51⟩;exact .inl ⟨_,rfl,hX _ _ _ _ _ A (.inl ⟨rfl,by unfold esX; rw[if_neg (by rw[hb3]; decide),if_neg (ne_of_beq_false hb14),if_neg (ne_of_beq_false hb17),if_neg (ne_of_beq_false hb20),if_neg (ne_of_beq_false hb23),if_neg (ne_of_beq_false hb26),if_neg (ne_of_beq_false hb29),if_neg (ne_of_beq_false hb32),if_neg (ne_of_beq_false hb35),if_neg (ne_of_beq_false hb41),if_neg (ne_of_beq_false hb45)],_,by omega,M.call hp51⟩)⟩
end Go.Proofs.YtjhkejihhpnooaaGreatDoor.G
namespace Go.Proofs
open Go.Shelf
def Tryz.lays103_ren: Go.Shelf.Ren:=⟨fun | 103=>62 | 210=>87 | 206=>75 | n=>n,fun | 9=>9 | 4=>4 | 24=>89 | 3=>3 | n=>n,fun | n=>n⟩
theorem Tryz.lays103: Go.Proofs.Lays.n103 Tryz.prog Tryz.lays103_ren:={
  mixed:=by kernel_rfl
  f103:=Tryz.func62.trans (congrArg some (by kernel_rfl))
  f206:=Tryz.func75.trans (congrArg some (by kernel_rfl))
  f210:=Tryz.func87.trans (congrArg some (by kernel_rfl))
  t3:=Tryz.underlying3
  a3:=Tryz.isAgg3
  z3:=Tryz.sizeOf3
  v3:=Tryz.zeroValue3
  t4:=Tryz.underlying4
  a4:=Tryz.isAgg4
  z4:=Tryz.sizeOf4
  v4:=Tryz.zeroValue4
  t9:=Tryz.underlying9
  a9:=Tryz.isAgg9
  z9:=Tryz.sizeOf9
  v9:=Tryz.zeroValue9
  t24:=Tryz.underlying89
  a24:=Tryz.isAgg89
  z24:=Tryz.sizeOf89
  v24:=Tryz.zeroValue89 }
open Go.RowKit in
theorem Tryz.strings_CutPrefix(s p:ByteArray)(w:World):
    Calls Tryz.prog 62 #[.string s,.string p] w fun e w'=>e=.returned (.tuple #[.string ⟨(Lib.trimPrefix s.data.toList p.data.toList).toArray⟩,.bool (Lib.hasPrefix s.data.toList p.data.toList)])∧w'=w:=Any.strings_CutPrefix Tryz.lays103 s p w
def Tryz.lays195_ren: Go.Shelf.Ren:=⟨fun | 195=>88 | n=>n,fun | 9=>9 | 3=>3 | 0=>0 | 4=>4 | n=>n,fun | n=>n⟩
theorem Tryz.lays195: Go.Proofs.Lays.n195 Tryz.prog Tryz.lays195_ren:={
  mixed:=by kernel_rfl
  f195:=Tryz.func88.trans (congrArg some (by kernel_rfl))
  t0:=Tryz.underlying0
  a0:=Tryz.isAgg0
  z0:=Tryz.sizeOf0
  v0:=Tryz.zeroValue0
  t3:=Tryz.underlying3
  a3:=Tryz.isAgg3
  z3:=Tryz.sizeOf3
  v3:=Tryz.zeroValue3
  t4:=Tryz.underlying4
  a4:=Tryz.isAgg4
  z4:=Tryz.sizeOf4
  v4:=Tryz.zeroValue4
  t9:=Tryz.underlying9
  a9:=Tryz.isAgg9
  z9:=Tryz.sizeOf9
  v9:=Tryz.zeroValue9 }
open Go.RowKit in
theorem Tryz.utf8_RuneCountInString(s:ByteArray)(w:World)(hs:s.size<9223372036854775807):
    Calls Tryz.prog 88 #[.string s] w fun e w'=>e=.returned (.int .i64 (Lib.runeCount s))∧∃pos,w'=w.iter s pos:=Any.utf8_RuneCountInString Tryz.lays195 s w hs
end Go.Proofs
namespace Go.Proofs.YtjhkejihhpnooaaGreatDoor.G
open Go.RowKit
set_option maxRecDepth 100000

def chI(l:List UInt8):Option Int:=if((((Lib.runeCount (tx l):Nat):Int))==1)=true then some (((dcX l).1:Nat):Int)else if(yv l).isSome=true then some ((yv l).getD 0)else if Lib.hasPrefix l [120]=true then(qfg (l.drop 1)).map (fun n=>((n:Nat):Int))else none
theorem zxg(l:List UInt8):xd ((yv l).getD 0)=true:=by
 unfold yv;by_cases h0:l=[110,117,108]
 ·rw[if_pos h0]; decide
 rw[if_neg h0];by_cases h1:l=[97,108,97,114,109]
 ·rw[if_pos h1]; decide
 rw[if_neg h1];by_cases h2:l=[98,97,99,107,115,112,97,99,101]
 ·rw[if_pos h2]; decide
 rw[if_neg h2];by_cases h3:l=[116,97,98]
 ·rw[if_pos h3]; decide
 rw[if_neg h3];by_cases h4:l=[108,105,110,101,102,101,101,100]
 ·rw[if_pos h4]; decide
 rw[if_neg h4];by_cases h5:l=[110,101,119,108,105,110,101]
 ·rw[if_pos h5]; decide
 rw[if_neg h5];by_cases h6:l=[118,116,97,98]
 ·rw[if_pos h6]; decide
 rw[if_neg h6];by_cases h7:l=[112,97,103,101]
 ·rw[if_pos h7]; decide
 rw[if_neg h7];by_cases h8:l=[114,101,116,117,114,110]
 ·rw[if_pos h8]; decide
 rw[if_neg h8];by_cases h9:l=[101,115,99]
 ·rw[if_pos h9]; decide
 rw[if_neg h9];by_cases h10:l=[115,112,97,99,101]
 ·rw[if_pos h10]; decide
 rw[if_neg h10];by_cases h11:l=[100,101,108,101,116,101]
 ·rw[if_pos h11]; decide
 rw[if_neg h11];decide
theorem qtj(l:List UInt8):xd (((dcX l).1:Nat):Int)=true:=by
 have:=qdc l;unfold C.OkR at this;unfold xd;apply decide_eq_true;omega
theorem jlh{w:World}{l:List UInt8}(hl:l.length≤1000000000):Calls Tryz.prog 88 #[.string (tx l)] w fun e w'=>e=.returned (iV ((Lib.runeCount (tx l):Nat):Int))∧Below w.heap.size w w':=
 (Tryz.utf8_RuneCountInString (tx l) w (by rw[xb]; omega)).mono fun e w' ⟨h,q,hq⟩=>⟨h,by rw[hq]; exact(Below.refl _ w).alloc (Nat.le_refl _) _⟩
theorem zah{w:World}{l:List UInt8}{b:Bool}(h:(yv l).isSome=b):Calls Tryz.prog 89 #[.string (tx l)] w fun e w'=>e=.returned (.tuple #[.int .i32 ((yv l).getD 0),bV b])∧Below w.heap.size w w':=h▸zqi
theorem zxh{w:World}{l t:List UInt8}(h:Lib.hasPrefix l t=true):Calls Tryz.prog 62 #[.string (tx l),.string (tx t)] w fun e w'=>e=.returned (.tuple #[.string (tx (l.drop t.length)),bV true])∧Below w.heap.size w w':=
 (Tryz.strings_CutPrefix (tx l) (tx t) w).mono fun e w' ⟨h1,h2⟩=>⟨by rw[h1,xl,xl,h,show Lib.trimPrefix l t=l.drop t.length from if_pos h]; rfl,h2▸Below.refl _ _⟩
theorem zxi{w:World}{l t:List UInt8}(h:Lib.hasPrefix l t=false):Calls Tryz.prog 62 #[.string (tx l),.string (tx t)] w fun e w'=>e=.returned (.tuple #[.string (tx l),bV false])∧Below w.heap.size w w':=
 (Tryz.strings_CutPrefix (tx l) (tx t) w).mono fun e w' ⟨h1,h2⟩=>⟨by rw[h1,xl,xl,h,show Lib.trimPrefix l t=l from if_neg (by rw[h]; decide)]; rfl,h2▸Below.refl _ _⟩
theorem zxj{w:World}{l:List UInt8}(hN:Env w)(hl:l.length≤1000000000):Calls Tryz.prog 63 #[.string (tx l)] w fun e w'=>(e=.panicked flt∧chI l=none∧Below w.heap.size w w')∨∃c:Int,e=.returned (.int .i32 c)∧(chI l=some c∧xd c=true)∧Below w.heap.size w w':=by
 have hT:=hN.tb;have M:Mg w w ([]):=Mg.start w;refine jr (l:=[(0,.string ((tx l)))]) Tryz.func63 rfl Tryz.ntmps63 rfl rfl ?_;intro Q hret hnorm hP hX a A;refine wsk fun K1 hK1=>wrl (sda A λa A=>?_);refine qa (hK1 _ _ (wsk fun K2 hK2=>wsk fun K3 hK3=>wrl (sdm A λa A=>?_)));refine gcl A M (ef rfl rfl) (jlh (l:=l) (by omega)) fun w5 hb4 M a A=>?_;rcases tf ((((Lib.runeCount (tx l):Nat):Int)==1))with hb6 | hb6
 ·have hb6':=eq_of_beq hb6;refine sdc A qf hb6 λa A=>?_;refine qa (hK3 _ _ (ct A ?_));refine wsk fun K7 hK7=>wrl (sdm A λa A=>?_);refine gcl A M (ef rfl rfl) (qji (l:=l) (hT.below M.bel)) fun w9 hb8 M a A=>?_;refine sdm A λa A=>?_;iterate 2 refine sdo A (qi (vs:=[.int .i32 ((((dcX l).1:Nat):Int)),iV ((((dcX l).2:Nat):Int))]) rfl rfl) λa A=>?_
  iterate 2 refine sda A λa A=>?_
  refine qa (hK7 _ _ (wsk fun K10 hK10=>wrl (sdm A λa A=>?_)));refine sda A λa A=>?_;refine qa (hK10 _ _ (wr1 hret A ?_));exact .inr ⟨_,rfl,⟨by unfold chI; rw[if_pos hb6],qtj l⟩,M.bel⟩
 ·have hb6':=ne_of_beq_false hb6;refine sdc A qf hb6 λa A=>?_;refine qa (hK3 _ _ (cf A ?_));refine wp_skip (hK2 _ _ (wsk fun K11 hK11=>wsk fun K12 hK12=>wrl (sdm A λa A=>?_)));rcases tf ((yv l).isSome)with hb14 | hb14
  ·refine gcl A M (ef rfl rfl) (zah hb14) fun w16 hb15 M a A=>?_;refine sdm A λa A=>?_;iterate 2 refine sdo A (qi (vs:=[.int .i32 (((yv l).getD 0)),bV true]) rfl rfl) λa A=>?_
   iterate 2 refine sda A λa A=>?_
   refine qa (hK12 _ _ (wsk fun K17 hK17=>wrl (sdm A λa A=>?_)));refine qa (hK17 _ _ (ct A ?_));refine wsk fun K18 hK18=>wrl (sdm A λa A=>?_);refine sda A λa A=>?_;refine qa (hK18 _ _ (wr1 hret A ?_));exact .inr ⟨_,rfl,⟨by unfold chI; rw[if_neg (by rw[hb6]; decide),if_pos hb14],zxg l⟩,M.bel⟩
  ·refine gcl A M (ef rfl rfl) (zah hb14) fun w20 hb19 M a A=>?_;refine sdm A λa A=>?_;iterate 2 refine sdo A (qi (vs:=[.int .i32 (((yv l).getD 0)),bV false]) rfl rfl) λa A=>?_
   iterate 2 refine sda A λa A=>?_
   refine qa (hK12 _ _ (wsk fun K21 hK21=>wrl (sdm A λa A=>?_)));refine qa (hK21 _ _ (cf A ?_));refine wp_skip (hK11 _ _ (wsk fun K22 hK22=>wrl (sdm A λa A=>?_)));rcases tf (Lib.hasPrefix l [120])with hb24 | hb24
   ·refine gcl A M (ef rfl rfl) (zxh (l:=l) (t:=[120]) hb24) fun w26 hb25 M a A=>?_;refine sdm A λa A=>?_;iterate 2 refine sdo A (qi (vs:=[.string ((tx (l.drop 1))),bV true]) rfl rfl) λa A=>?_
    iterate 2 refine sda A λa A=>?_
    refine qa (hK22 _ _ (wsk fun K27 hK27=>wrl (sdm A λa A=>?_)));refine gcl A M (ef rfl rfl) (kj) fun w29 hb28 M a A=>?_;refine qa (hK27 _ _ (wsk fun K30 hK30=>wrl (sdm A λa A=>?_)));refine qy A rfl rfl rfl (ef rfl rfl) (znh (l:=l.drop 1) (hN.below M.bel).er (by rw[List.length_drop]; omega)) ?_;rintro _ w32 (⟨rfl,hp33⟩ | ⟨c,rfl,⟨hc,hcc⟩,hb31⟩)
    ·exact .inl ⟨_,rfl,hX _ _ _ _ _ A (.inl ⟨rfl,by unfold chI; rw[if_neg (by rw[hb6]; decide),if_neg (by rw[hb14]; decide),if_pos hb24]; rw[hp33.1]; rfl,M.bel.trans (hp33.2.mono M.bel.size)⟩)⟩
    replace M:=M.call hb31;refine .inr ⟨_,rfl,?_⟩;intro a A;refine sda A λa A=>?_;refine qa (hK30 _ _ (wr1 hret A ?_));exact .inr ⟨_,rfl,⟨by unfold chI; rw[if_neg (by rw[hb6]; decide),if_neg (by rw[hb14]; decide),if_pos hb24]; rw[hc]; rfl,hcc⟩,M.bel⟩
   ·refine gcl A M (ef rfl rfl) (zxi (l:=l) (t:=[120]) hb24) fun w35 hb34 M a A=>?_;refine sdm A λa A=>?_;iterate 2 refine sdo A (qi (vs:=[.string ((tx l)),bV false]) rfl rfl) λa A=>?_
    iterate 2 refine sda A λa A=>?_
    refine qa (hK22 _ _ (wsk fun K36 hK36=>wrl (sdm A λa A=>?_)));refine qy A rfl rfl rfl (ef rfl rfl) (vh) ?_;rintro _ w38 ⟨rfl,hp39⟩;exact .inl ⟨_,rfl,hX _ _ _ _ _ A (.inl ⟨rfl,by unfold chI; rw[if_neg (by rw[hb6]; decide),if_neg (by rw[hb14]; decide),if_neg (by rw[hb24]; decide)],M.bel.trans (hp39.mono M.bel.size)⟩)⟩
end Go.Proofs.YtjhkejihhpnooaaGreatDoor.G
namespace Go.Proofs
open Go.Shelf
def Tryz.lays240_ren: Go.Shelf.Ren:=⟨fun | 240=>83 | 276=>113 | n=>n,fun | 70=>81 | 0=>0 | 72=>83 | 4=>4 | 164=>137 | 37=>27 | 5=>5 | 9=>9 | 20=>20 | n=>n,fun | n=>n⟩
theorem Tryz.lays240: Go.Proofs.Lays.n240 Tryz.prog Tryz.lays240_ren:={
  mixed:=by kernel_rfl
  f240:=Tryz.func83.trans (congrArg some (by kernel_rfl))
  f276:=Tryz.func113.trans (congrArg some (by kernel_rfl))
  t0:=Tryz.underlying0
  a0:=Tryz.isAgg0
  z0:=Tryz.sizeOf0
  v0:=Tryz.zeroValue0
  t4:=Tryz.underlying4
  a4:=Tryz.isAgg4
  z4:=Tryz.sizeOf4
  v4:=Tryz.zeroValue4
  t9:=Tryz.underlying9
  a9:=Tryz.isAgg9
  z9:=Tryz.sizeOf9
  v9:=Tryz.zeroValue9
  t20:=Tryz.underlying20
  a20:=Tryz.isAgg20
  z20:=Tryz.sizeOf20
  v20:=Tryz.zeroValue20
  t70:=Tryz.underlying81
  a70:=Tryz.isAgg81
  z70:=Tryz.sizeOf81
  v70:=Tryz.zeroValue81
  t72:=Tryz.underlying83
  a72:=Tryz.isAgg83
  z72:=Tryz.sizeOf83
  v72:=Tryz.zeroValue83
  t164:=Tryz.underlying137
  a164:=Tryz.isAgg137
  z164:=Tryz.sizeOf137
  v164:=Tryz.zeroValue137 }
theorem Tryz.Builder_X72_240: Builder.X72 Tryz.prog Tryz.lays240_ren:={
  sizeBuilder:=by kernel_rfl
  liesBuilder:=by kernel_rfl }
end Go.Proofs
namespace Go.Proofs.YtjhkejihhpnooaaGreatDoor.G
open Go.RowKit Go.Shelf

theorem jfg{w:World}{gw:Nat}(h0:w.cell? ⟨gw,0,none⟩=some (.pointer (some ⟨gw,0,none⟩))):Calls Tryz.prog 83 #[.pointer (some ⟨gw,0,none⟩)] w fun e w'=>e=.returned (.tuple #[])∧w'=w:=
  Any.Builder_copyCheck_used Tryz.lays240 Tryz.Builder_X72_240 gw w h0
theorem zai{B:Nat}{w0 w:World}(h:Below B w0 w){g:Nat}(hg:B≤g)(n:Nat):Below B w0 (w.freeze ⟨g,0,none⟩ n):=Lib.below_freeze h (p:=⟨g,0,none⟩) hg n
theorem zaj{P:Program}(w:World)(base:Nat)(t u ty e:TypeId)(i:TypeInfo)(ht:P.underlying t=some (.slice e))(hu:P.underlying u=some .string)(hi:P.info? e=some i)(hz:i.zero=some (.int .u8 0))(hsize:i.size=1)(hby:i.bytes=1)
    (v:Value) (n:Nat) (xs:List Value) (hown:w.ownsRow base e 1 v n xs) (s:ByteArray) (h63:n+s.size≤140737488355328) (hbase:base≤w.heap.size) :
    ∃v' w',(Builtin.append_ #[t,u] ty #[v,.string s]).run P w=.ok v' w'∧w'.ownsRow base e 1 v' (n+s.size) (xs++Lib.strCells s)∧w.grownBy w' v.ownBlock∧(v'.ownBlock=v.ownBlock∨v'.ownBlock=some w.heap.size):=by
  obtain⟨v',w',hr,h2,h3,h4⟩:=Lib.run_append_own_string (P:=P) w base t u ty e i ht hu hi hz hsize hby v n xs hown s (by unfold maxLen; omega) h63 hbase;refine⟨v',w',hr,h2,h3,?_⟩;rcases hown.2 with⟨rfl,rfl⟩ | ⟨g,cap,cur,rfl,hbg,hg,hnc,hcm,hcs,htake⟩
  · by_cases hm:s.size=0
    · left; rw[h4.2 ⟨rfl,hm⟩]
    · right;have hr2:=run_append_nil_string (P:=P) w t u ty e i (.int .u8 0) ht hu hi hz s (by omega) (by omega) (by rw[hby]; omega);rw[hr]at hr2;injection hr2 with e1 _;rw[e1]; rfl
  · by_cases hroom:n+s.size≤cap
    · left;have hr2:=Lib.run_append_room_string (P:=P) w t u ty e i ht hu hi hsize g n cap cur hg s hroom (by simp at hcs; omega);rw[hr]at hr2;injection hr2 with e1 _;rw[e1]; rfl
    · right;have hxl:xs.length=n:=(by simpa using hown.1);have hr2:=Lib.run_append_grow_string (P:=P) w t u ty e i (.int .u8 0) ht hu hi hz ⟨g,0,none⟩ n cap xs (by rw[hsize]; simpa using hxl) (hown.cells (g:=g) rfl) s (by omega) (by omega) (by rw[hby]; exact growslice_fits (by omega) (by omega));rw[hr]at hr2;injection hr2 with e1 _;rw[e1]; rfl
section
variable {P:Program} {w0 w:World} {L:List Ck} {l:List (Nat×Value)} {dst:Option Tmp} {ty:TypeId} {pos:String} {after:Array Edge} {guard:Option (Nat×Bool)} {v:Value}
theorem jfh{w:World}{B:Nat}{e:TypeId}{v v':Value}{n n':Nat}{xs xs':List Value}{d:Ck}(hd:d.holds B w)(hat:v'.ownBlock=v.ownBlock∨v'.ownBlock=some w.heap.size)(ha:Ap (.row e 1 v n xs) d):Ap (.row e 1 v' n' xs') d:=by
  have hl:=Ck.lt hd;have key:∀z,d.at_=some z→v.ownBlock≠some z→v'.ownBlock≠some z:=fun z hz hne e=>by
    rcases hat with h | h
    · exact hne (h▸e)
    · rw[h]at e;have:=(hl z hz).2;have e2:w.heap.size=z:=Option.some.inj e;omega
  cases d with
  | obj g' o' => exact key g' rfl ha
  | row e' sz' v2 n2 xs2 =>
    by_cases hz:v2.ownBlock=none
    · by_cases hv:v'.ownBlock=none
      · exact .inl hv
      · exact .inr (fun e=>hv (e.trans hz))
    · obtain⟨z,hz⟩:=Option.ne_none_iff_exists'.1 hz;right;rw[hz];refine key z hz ?_;rcases ha with ha | ha
      · rw[ha]; simp
      · exact fun e=>ha (e.trans hz.symm)
  | bld b' bs' => exact ⟨ha.1, key b' rfl ha.2⟩
theorem zba{t u:TypeId}{x y:Operand}(ht:P.underlying t=some (.slice BY))(hu:P.underlying u=some .string)(hinfo:(P.info? BY).map (fun i=>(i.zero,i.size,i.bytes))=some (some (.int .u8 0),1,1))(hM:Mg w0 w L)(k:Nat){q:Nat}{xs:List Value}(hk:L[k]?=some (.row BY 1 v q xs))(hx:ev l x=some v){s:ByteArray}(hy:ev l y=some (.string s))(hlen:q+s.size≤140737488355328):
    ∃v' w',Does P l ⟨dst,.call ⟨.builtin .append,#[x,y],#[t,u]⟩,ty,pos,after,guard⟩ w v' w'∧Mg w0 w' (L.set k (.row BY 1 v' (q+s.size) (xs++Lib.strCells s))):=by
  obtain⟨i,hi,hzz⟩:=Option.map_eq_some_iff.1 hinfo;simp only[Prod.mk.injEq]at hzz;obtain⟨hz,hs,hb⟩:=hzz;obtain⟨v',w',hr,hown,hgr,hat⟩:=zaj (P:=P) w w0.heap.size t u ty BY i ht hu hi hz hs hb v q xs (hM.has k hk) s hlen hM.bel.size;refine⟨v',w',fun ρ h=>?_,hM.turn k hk (by simp) hgr hown (fun d hd ha=>jfh (hM.all d hd) hat ha)⟩;simp[execOp,resolve,invoke,builtin,h x _ hx,h y _ hy,hr]
end
def QT(T:List Ck):Prop:=∀d∈T,∃g o,d=.obj g o∧qcj o
theorem QT.nil: QT []:=fun d h=>by cases h
theorem QT.cons{g:Nat}{cs:Array Value}{t:TypeId}{T:List Ck}(h:t≠BY)(hT:QT T):QT (.obj g (.cells cs t)::T):=fun d hd=>by
  rcases List.mem_cons.1 hd with rfl | hd
  · exact⟨_,_,rfl,xf h⟩
  · exact hT d hd
set_option maxRecDepth 100000 in
theorem zrd{w:World}{gw:Nat}(h0:w.cell? ⟨gw,0,none⟩=some (.pointer none))(hsh:w.shape? gw=some (83,2))(hfz:w.frozen? ⟨gw,0,none⟩=false):Calls Tryz.prog 83 #[.pointer (some ⟨gw,0,none⟩)] w fun e w'=>e=.returned (.tuple #[])∧w'=w.setCell ⟨gw,0,none⟩ (.pointer (some ⟨gw,0,none⟩)):=by
  obtain⟨j,hj,hjs⟩:=Option.map_eq_some_iff.1 Tryz.Builder_X72_240.sizeBuilder
  go_enter Tryz.func83,Tryz.ntmps83
  go_wp2
  rw[Lib.run_to_unsafe w ⟨gw,0,none⟩ Tryz.underlying81 Tryz.underlying137 hj (by rw[hjs]; decide) hsh (Nat.zero_lt_succ 1)];simp only[Result.andThen];rw[Oper.upon_value]
  go_wp2
  rw[run_callFunc_extern Tryz.func113 (by kernel_rfl) (by kernel_rfl) (by kernel_rfl) (e:=Extern.AbiNoEscape.same) (by kernel_rfl)];rw[Lib.run_noEscape];simp only[Result.andThen];rw[Oper.upon_value]
  go_wp2
  rw[Lib.run_from_unsafe w ⟨gw,0,none⟩ Tryz.underlying137 Tryz.underlying81 hj hsh (by kernel_rfl)];simp only[Result.andThen];rw[Oper.upon_value]
  go_wp2
  go_end0
  exact⟨rfl,rfl⟩
theorem znj{w0 w:World}{gw:Nat}{p v:Value}{L:List Ck}(hp:p=.pointer none∨p=.pointer (some ⟨gw,0,none⟩))(hM:Mg w0 w (.obj gw (.cells #[p,v] 83)::L)):Calls Tryz.prog 83 #[.pointer (some ⟨gw,0,none⟩)] w fun e w'=>e=.returned (.tuple #[])∧Mg w0 w' (.obj gw (.cells #[.pointer (some ⟨gw,0,none⟩),v] 83)::L):=by
  have hc:=hM.cell 0 (vs:=[p,v]) rfl 0 rfl;rcases hp with rfl | rfl
  · have hb:=hM.obj 0 rfl;refine(zrd hc (by simp[World.shape?,hb]) (hM.froz 0 (vs:=[_,_]) rfl 0)).mono ?_;rintro e w' ⟨rfl,rfl⟩;exact⟨rfl,hM.put 0 (vs:=[_,v]) rfl 0 _⟩
  · refine(jfg hc).mono ?_;rintro e w' ⟨rfl,rfl⟩;exact⟨rfl,hM⟩
set_option maxRecDepth 100000 in
theorem zya{w:World}{B gw g cap:Nat}{p:Value}{l:List UInt8}{cur:Array Value}(h0:l≠[])(hbk:w.heap[gw]?=some (.cells #[p,.slice (some ⟨g,0,none⟩) l.length cap] 83 (0,0)))(hg:w.heap[g]?=some (.cells cur 5 (0,0)))(hcap:l.length≤cap)(hmax:l.length≤9223372036854775807)(hB:B≤g)
    (hcs:∀j x,l[j]?=some x→w.cell? ⟨g,j,none⟩=some (.int .u8 ((x:UInt8).toNat:Nat))) (hsz:l.length≤cur.size):Calls Tryz.prog 60 #[.pointer (some ⟨gw,0,none⟩)] w fun e w'=>e=.returned (.string ⟨l.toArray⟩)∧Below B w w':=by
  have hl0:l.length≠0:=by simpa using h0
  have mixed:Tryz.prog.follows .mixedOrders=true:=by kernel_rfl
  have c1:w.drew.cell? ⟨gw,1,none⟩=some (.slice (some ⟨g,0,none⟩) l.length cap):=by
    have:w.drew.heap[gw]?=some (.cells #[p,.slice (some ⟨g,0,none⟩) l.length cap] 83 (0,0)):=hbk;rw[Lib.cell_of_heap this]; rfl
  have hSD:(Builtin.unsafeSliceData_ #[27] 114 #[.slice (some ⟨g,0,none⟩) l.length cap]).run Tryz.prog w.drew=.ok (.pointer (some ⟨g,0,none⟩)) w.drew:=
    Lib.run_unsafeSliceData_row _ _ _ _ _ _ (by omega)
  have hUS:(Builtin.unsafeString_ #[114,3] 9 #[.pointer (some ⟨g,0,none⟩),.int .i64 l.length]).run Tryz.prog w.drew=.ok (.string ⟨l.toArray⟩) (w.drew.freeze ⟨g,0,none⟩ l.length):=
    Lib.run_unsafeString_row w.drew 114 3 9 5 Tryz.underlying114 (by kernel_rfl) g cur.size (by have hg':w.drew.heap[g]?=some (.cells cur 5 (0,0)):=hg; simp[World.shape?,hg']) l h0 (by omega) (by omega) (fun j x hx=>by rw[xj,Nat.zero_add]; exact hcs j x hx)
  go_enter Tryz.func60,Tryz.ntmps60
  go_wp2
  go_region_o
  all_goals (go_wp2; go_ret; exact⟨rfl,zai (Below.drew (Below.refl B w)) hB _⟩)
def QM(M:Nat)(T:List Ck):Prop:=∀d∈T,∃g o,d=.obj g o∧(g<M∨qcj o)
theorem QM.nil{M:Nat}:QM M []:=fun d h=>by cases h
theorem QM.cons{M g:Nat}{o:Obj}{T:List Ck}(h:g<M∨qcj o)(hT:QM M T):QM M (.obj g o::T):=fun d hd=>by
 rcases List.mem_cons.1 hd with rfl | hd
 ·exact⟨_,_,rfl,h⟩
 ·exact hT d hd
theorem QM.of{w0 w:World}{T:List Ck}(N:Mg w0 w T)(hT:∀c∈T,∃g o,c=.obj g o):QM w.heap.size T:=fun d hd=>by
 obtain⟨g,o,rfl⟩:=hT d hd;exact⟨g,o,rfl,.inl (Ck.lt (N.all _ hd) g rfl).2⟩
def HiV(M:Nat)(v:Value):Prop:=∀g,v.ownBlock=some g→M≤g
theorem HiV.none{M:Nat}:HiV M (.slice none 0 0):=fun g h=>by cases h
theorem jli{w:World}{B M:Nat}{e:TypeId}{sz n:Nat}{v:Value}{xs:List Value}(h:w.ownsRow B e sz v n xs)(hv:HiV M v):w.ownsRow M e sz v n xs:=by
 obtain⟨h1,h2⟩:=h;refine⟨h1,?_⟩;rcases h2 with h2 | ⟨g,cap,cur,a,b,c,d⟩
 ·exact .inl h2
 ·exact .inr ⟨g,cap,cur,a,hv g (by rw[a]; rfl),c,d⟩
theorem qpj{w:World}{B M:Nat}{e:TypeId}{sz n:Nat}{v:Value}{xs:List Value}(h:w.ownsRow M e sz v n xs)(hB:B≤M):w.ownsRow B e sz v n xs∧HiV M v:=by
 obtain⟨h1,h2⟩:=h;rcases h2 with h2 | ⟨g,cap,cur,a,b,c,d⟩
 ·exact⟨⟨h1,.inl h2⟩,fun g hg=>by rw[h2.1]at hg; cases hg⟩
 ·exact⟨⟨h1,.inr ⟨g,cap,cur,a,Nat.le_trans hB b,c,d⟩⟩,fun g' hg=>by rw[a]at hg; cases hg; exact b⟩
theorem jpi{w0 w:World}{M gw:Nat}{ob:Obj}{v:Value}{q:Nat}{xs:List Value}{T:List Ck}(N:Mg w0 w (.obj gw ob::.row BY 1 v q xs::T))(ho:qcj ob)(hT:QM M T)(hv:HiV M v)(h0:w0.heap.size≤M)(h1:M≤w.heap.size){r:Int}(hr0:-2147483648≤r)(hr1:r≤2147483647)(hlen:q+4≤140737488355328):
  Calls Tryz.prog 84 #[v,.int .i32 r] w fun e w'=>∃v',e=.returned v'∧HiV M v'∧Mg w0 w' (.obj gw ob::.row BY 1 v' (q+(Lib.runeCells r).length) (xs++Lib.runeCells r)::T):=by
 refine(Any.utf8_AppendRune_plain Tryz.laysAppend (by kernel_rfl) M v q xs r hr0 hr1 w (jli (N.has 1 rfl) hv) hlen h1).mono ?_;rintro e w' ⟨v',rfl,hownM,o,hgr⟩;obtain⟨hown,hv'⟩:=qpj hownM h0;refine⟨v',rfl,hv',?_⟩;have hM1:Mg w0 (w.alloc o) (.obj gw ob::.row BY 1 v q xs::T):=N.call ((Below.refl _ _).alloc (Nat.le_refl _) _);have key:∀g o',Ck.holds w0.heap.size (w.alloc o) (.obj g o')→Ap (.row BY 1 v q xs) (.obj g o')→(g<M∨qcj o')→v'.ownBlock≠some g:=fun g o' hd ha hq hg=>by
  rcases hq with hq | hq
  ·have:=hv' g hg; omega
  have hd':=Ck.grown hd (hM1.has 1 rfl) (by simp) ha hgr;rcases hown.2 with⟨rfl,_⟩ | ⟨g2,cap,cur,rfl,hbg,hgc,_⟩
  ·cases hg
  ·have e1:g2=g:=Option.some.inj hg;subst e1;exact hq cur (0,0) (Option.some.inj (hd'.2.symm.trans hgc))
 refine hM1.turn 1 (c':=.row BY 1 v' _ _) rfl (by simp) hgr hown (fun d hd ha=>?_);rcases List.mem_cons.1 hd with rfl | hd
 ·exact key _ _ (hM1.has 0 rfl) ha (.inr ho)
 ·rcases List.mem_cons.1 hd with rfl | hd2
  ·rcases ha with h0 | h0
   ·by_cases h1:v'.ownBlock=none
    ·exact .inl h1
    ·exact .inr (fun e=>h1 (e.trans h0))
   ·exact absurd rfl h0
  ·obtain⟨g,o',rfl,hq⟩:=hT d hd2;exact key _ _ (hM1.all _ (List.mem_cons_of_mem _ hd)) ha hq
set_option maxRecDepth 100000 in
theorem zre{w:World}{B gw:Nat}{p:Value}(hbk:w.heap[gw]?=some (.cells #[p,.slice none 0 0] 83 (0,0))):Calls Tryz.prog 60 #[pA gw 0] w fun e w'=>e=.returned (.string ⟨#[]⟩)∧Below B w w':=by
 have mixed:Tryz.prog.follows .mixedOrders=true:=by kernel_rfl
 have c1:w.drew.cell? ⟨gw,1,none⟩=some (.slice none 0 0):=by
  have:w.drew.heap[gw]?=some (.cells #[p,.slice none 0 0] 83 (0,0)):=hbk;rw[Lib.cell_of_heap this]; rfl
 have hSD:(Builtin.unsafeSliceData_ #[27] 114 #[.slice none 0 0]).run Tryz.prog w.drew=.ok (.pointer none) w.drew:=Lib.run_unsafeSliceData_nil _ _ _ _ _;have hUS:(Builtin.unsafeString_ #[114,3] 9 #[.pointer none,iV 0]).run Tryz.prog w.drew=.ok (.string .empty) w.drew:=Lib.run_unsafeString_none _ _ _ _ _
 go_enter Tryz.func60,Tryz.ntmps60
 go_wp2
 go_region_o
 all_goals (go_wp2; go_ret; exact⟨rfl,Below.drew (Below.refl B w)⟩)
open Go.RowKit
mutual
def Tr.bulk: Tr→Nat
  | .mk _ _ q s rl ts => s.size + rl.length + (q.t1.length + q.q1.length + (q.t2.length + q.q2.length)) + 1 + Tr.bulks ts
def Tr.bulks: List Tr→Nat
  | [] => 0
  | t :: ts => t.bulk + Tr.bulks ts
end
theorem qua{k n:Int}{q:Q6}{s:ByteArray}{rl:List UInt8}{ts:List Tr}:(Tr.mk k n q s rl ts).bulk=s.size+rl.length+(q.t1.length+q.q1.length+(q.t2.length+q.q2.length))+1+Tr.bulks ts:=by rw[Tr.bulk]
open Go.RowKit Go.Lib
def Q6.none: Q6:=⟨false,[],[],false,[],[]⟩
theorem Dt.eta(t:Dt):Dt.mk t.d t.ts=t:=by cases t; rfl
theorem jpj{w:World}{t:Dt}(h:t.rd w){i:Nat}(hi:i<t.ts.length):∃t1 b o,t.ts[i]?=some t1∧t1∈t.ts∧t1.rd w∧t.d.lo=some ⟨b,o,none⟩∧Here w b (o+i*11) (t1.d.cells t1.ts.length):=kid (d:=t.d) (by rw[Dt.eta]; exact h) hi
def hw(h n:Int):Int:=bits .xor .u64 (IntKind.u64.wrap (bits .xor .u64 h n*1099511628211)) (IntKind.u64.wrap (bits .xor .u64 h n*1099511628211) / 2^32)
end Go.Proofs.YtjhkejihhpnooaaGreatDoor.G
