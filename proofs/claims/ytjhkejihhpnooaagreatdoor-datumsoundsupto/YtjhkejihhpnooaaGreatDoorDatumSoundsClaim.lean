/- DatumSounds -/
import Derived.Test.YtjhkejihhpnooaaGreatDoorRows
import Derived.Test.YtjhkejihhpnooaaGreatDoorCards
import Derived.Test.YtjhkejihhpnooaaGreatDoorTie
import Derived.Test.YtjhkejihhpnooaaGreatDoorPdatums11j
import Derived.WalkKit
import Derived.ProofKit
import Derived.OpenShut
import Derived.ShutString
import Derived.ChangeOld
import Derived.Below
import Derived.Lay
import Derived.LaidOnce
import Derived.SevenTiedAt
import Derived.MakeChecks
import Derived.Lib.LaidU8T
import Derived.Deep.DeepHandedRow
namespace Go.Proofs.YtjhkejihhpnooaaGreatDoor.datumSounds
open Go.ChangeShapes Go.WideShapes Go.ChangeAt Go.RowKit
open Go.ChangeMaps (open_string shut_string)
open Go.Proofs.YtjhkejihhpnooaaGreatDoor.G
set_option linter.unusedVariables false
set_option linter.unusedSimpArgs false

theorem own: ownKnob Tryz.prog.godebug=none:=by kernel_rfl
theorem laidOut: laidOutB Tryz.prog=true:=by kernel_rfl

theorem mem_first : ("unicode/utf8.first", Lib.firstData) ∈ Rows.datumSoundsUptoRow.laid := by
  have e:(Rows.laid_unicode_utf8_first:DataW Unit)=Lib.firstData:=by kernel_rfl
  rw[←e];unfold Rows.datumSoundsUptoRow;simp
theorem mem_accept : ("unicode/utf8.acceptRanges", Lib.acceptData) ∈ Rows.datumSoundsUptoRow.laid := by
  have e:(Rows.laid_unicode_utf8_acceptRanges:DataW Unit)=Lib.acceptData:=by kernel_rfl
  rw[←e];unfold Rows.datumSoundsUptoRow;simp
theorem mem_range : ("strconv.ErrRange", Rows.laid_strconv_ErrRange) ∈ Rows.datumSoundsUptoRow.laid := by
  unfold Rows.datumSoundsUptoRow;simp
theorem mem_syntax : ("strconv.ErrSyntax", Rows.laid_strconv_ErrSyntax) ∈ Rows.datumSoundsUptoRow.laid := by
  unfold Rows.datumSoundsUptoRow;simp
set_option maxRecDepth 100000 in
theorem contract(H:Type)(enc:TypeId×Value→H)(W:World)(base:Nat)(args:Array Value)(ds gs:List (DataW H))(before:List MemPlace)
    (hval:∀(j:Nat) t v,Tryz.f3.params[j]?=some t→args[j]?=some v→Value.okWide Tryz.prog W .any base t v)
    (hW:DataW.Whole enc Tryz.prog Tryz.f3.params.toList Rows.datumSoundsSpec.vars false W args.toList ds gs before) (hk:Rows.uptoSmall H (ds++gs)=true) (hL:laidMetH Tryz.prog Rows.datumSoundsUptoRow.laid W) (hO:World.ShapedOpen Tryz.prog W) :
    Calls Tryz.prog 3 args W fun e W'=>∃v,e=.returned v∧Rows.datumSoundsSpec.post enc Tryz.prog Tryz.f3 false true false false W args v W':=by
  have hT:G.Tabs8 W:=by
    rw[MakeChecks.laidMetH_plain _ _ _ (by kernel_rfl)]at hL;exact utf8Tabs_of_readsT (U8Types.of196 Tryz.laysValid) ⟨by kernel_rfl,by kernel_rfl,by kernel_rfl,by kernel_rfl,by kernel_rfl,by kernel_rfl,by kernel_rfl⟩ (Lib.laidMet.reads hL mem_first) (Lib.laidMet.reads hL mem_accept)
  have hE:Env W:=by
    rw[MakeChecks.laidMetH_plain _ _ _ (by kernel_rfl)]at hL;exact jnh hT (Lib.laidMet.reads hL mem_range) (Lib.laidMet.reads hL mem_syntax) hO
  have hW':=hW;obtain⟨p,q,hA0,hV,rfl,hfz,hnd⟩:=hW;have hA:DataW.TrodAll enc Tryz.prog W 0 (fun _=>true) true Tryz.f3.params.toList args.toList ds p:=hA0;rw[Tryz.params3]at hA hval;obtain⟨v0,vs0,d0,ds0,p0,q0,hargs,rfl,rfl,h0,r0⟩:=trodAll_cons hA;obtain⟨v1,vs1,d1,ds1,p1,q1,rfl,rfl,rfl,h1,r1⟩:=trodAll_cons r0;obtain⟨rfl,rfl,rfl⟩:=trodAll_nil r1;obtain rfl:args=#[v0,v1]:=by cases args; simp_all
  obtain⟨rfl,rfl⟩:=trodVars_none hV;have k0:=h0;have lt0:∀x∈p0,x.block<W.heap.size:=by obtain⟨m,hm⟩:=k0; exact DataW.trod_lt m _ _ _ hm
  have u0:=zqd hk (j:=0) rfl;obtain⟨t0,rfl,hn0,z0⟩:=zmc (hval 0 30 v0 rfl rfl) h0;have s0:t0.tr.bulk≤1048576:=Nat.le_trans z0 u0;have u1:=zqd hk (j:=1) rfl;obtain⟨a1,rfl,rfl,rfl,w1⟩:=open_string Tryz.underlying9 (hval 1 9 v1 rfl rfl) h1;have s1:a1.size≤1048576:=by
    have e:a1.data.toList.length=a1.size:=(by rw[Array.length_toList]; rfl);simp only[Rows.uptoBulk]at u1;omega
  clear hA0;refine(zmd hE hn0 s0 s1).mono fun e W' ⟨he,bel⟩=>?_;subst he;exact⟨_,rfl,_,_,_,[],_,[],hW',trodAll_mk1 (shut_bool Tryz.underlying4 _),(trodAll_cons_mk (Below.trod laidOut (by kernel_rfl) (of_decide_eq_true (by kernel_rfl)) k0 bel lt0) (trodAll_cons_mk (shut_string Tryz.underlying9 w1) trodAll_mk0)),rfl,bel.frame _,fun h=>by cases h⟩

theorem reads(os:Os){H:Type}(enc:TypeId×Value→H):∃places,DataW.whole enc Tryz.prog ((World.laidAll Tryz.prog os Rows.datumSoundsUptoRow.laid).forCall (fun _ _=>0) ⟨#[],#[.agg #[.int .i64 0,.int .i64 0,.bool false,.slice none 0 0,.slice none 0 0,.bool false,.slice none 0 0,.slice none 0 0,.string .empty,.slice none 0 0,.slice none 0 0],.string .empty],[]⟩).memory Tryz.f3.params.toList Rows.datumSoundsSpec.vars false (#[.agg #[.int .i64 0,.int .i64 0,.bool false,.slice none 0 0,.slice none 0 0,.bool false,.slice none 0 0,.slice none 0 0,.string .empty,.slice none 0 0,.slice none 0 0],.string .empty]:Array Value).toList 8=some ([.agg [.lit (.int .i64 0),.lit (.int .i64 0),.agg [.agg [.lit (.bool false),.nil,.nil],.agg [.lit (.bool false),.nil,.nil]],.lit (.string []),.nil,.nil],.lit (.string [])],[],places):=
  ⟨[],by kernel_rfl⟩
theorem laid_met(os:Os):laidMetH Tryz.prog Rows.datumSoundsUptoRow.laid ((World.laidAll Tryz.prog os Rows.datumSoundsUptoRow.laid).forCall (fun _ _=>0) ⟨#[],#[.agg #[.int .i64 0,.int .i64 0,.bool false,.slice none 0 0,.slice none 0 0,.bool false,.slice none 0 0,.slice none 0 0,.string .empty,.slice none 0 0,.slice none 0 0],.string .empty],[]⟩).memory:=by
  rw[MakeChecks.laidMetH_plain _ _ _ (by kernel_rfl)];exact laidMet_laidAll _ (by kernel_rfl) (by kernel_rfl)

set_option maxRecDepth 100000 in
theorem lifted(os:Os)(started:os.Started)(H:Type)(enc:TypeId×Value→H)(F:Stop.Interp):
    ReturnsInHanded {} Tryz.checked os 3 .any ((Rows.OpenSpec.upto Rows.datumSoundsSpec).preRow enc Tryz.prog Tryz.f3 Rows.datumSoundsUptoRow.domain false Rows.datumSoundsUptoRow.laid) (((Rows.OpenSpec.upto Rows.datumSoundsSpec).at F).post enc Tryz.prog Tryz.f3 false true false false):=by
  obtain⟨places,hx⟩:=reads os enc;refine returnsInHanded_of_row (C:=Tryz.checked) (s:=Rows.OpenSpec.upto Rows.datumSoundsSpec) own started (by kernel_rfl) Tryz.func3
    (witness_row_at (enc:=enc) (C:=Tryz.checked) false (World.laidAll Tryz.prog os Rows.datumSoundsUptoRow.laid) #[.agg #[.int .i64 0,.int .i64 0,.bool false,.slice none 0 0,.slice none 0 0,.bool false,.slice none 0 0,.slice none 0 0,.string .empty,.slice none 0 0,.slice none 0 0],.string .empty] (World.laidAll_os _ _ _) (by kernel_rfl) (by kernel_rfl) (by kernel_rfl)
      (OpenSpec.preRow_of_cond 8 hx (by kernel_rfl) (fun k hk=>by cases hk; kernel_rfl) (by kernel_rfl) (laid_met os))) ?_
  intro W base args ds gs before hval hW _ hcond _ hX hO _;exact contract H enc W base args ds gs before hval hW (hcond _ rfl) hX hO

theorem proved: Rows.DatumSoundsUptoSaid:=
  OpenClaim.holds_of_cond 3 Tryz.f3 rfl rfl rfl rfl rfl rfl rfl ⟨rfl,rfl,rfl,rfl,rfl⟩ rfl rfl rfl rfl rfl (by kernel_rfl) Tryz.func3 (by kernel_rfl)
    (of_decide_eq_true (by kernel_rfl)) (by unfold Func.isWrapper; first | (rw[if_pos (by decide +kernel)]; kernel_rfl) | (rw[if_neg (by decide +kernel)]; exact⟨rfl,rfl⟩))
    (fun os started H enc _ F=>by rw[OpenClaim.pre_eq_preRow]; exact lifted os started H enc F)

theorem plain (f : FuncId) (fn : Func) (hf : Tryz.pinned.checked.prog.funcNamed "sextant/sextantlaw08.DatumSounds" = some f) (hfn : Tryz.pinned.checked.prog.funcs[f]? = some fn) :
    true=Tryz.pinned.checked.prog.looks []∧∀(j:Nat) t,fn.params[j]?=some t→Tryz.pinned.checked.prog.wantsStandIn t=false:=by
  obtain rfl : f = 3 := Option.some.inj ((show Tryz.prog.funcNamed "sextant/sextantlaw08.DatumSounds" = some 3 by kernel_rfl).symm.trans hf) |>.symm
  obtain rfl:fn=Tryz.f3:=(Option.some.inj (Tryz.func3.symm.trans hfn)).symm;refine⟨by kernel_rfl,fun j t ht=>?_⟩;rw[Tryz.params3]at ht;have hm:t∈[30,9]:=by simpa using Array.mem_of_getElem? ht
  have hall:([30,9].all fun u=>!Tryz.prog.wantsStandIn u)=true:=by kernel_rfl
  exact(show Tryz.prog.wantsStandIn t=false by simpa using List.all_eq_true.1 hall t hm)
end Go.Proofs.YtjhkejihhpnooaaGreatDoor.datumSounds
namespace Go.Proofs.YtjhkejihhpnooaaGreatDoor
open Go
theorem datumSounds_holds: Rows.DatumSoundsUptoCardSaid:=
  Claim7.holds_tied_plain_at .later [] _ _ _ _ datumSounds.proved (fun _ h=>by cases h) (by kernel_rfl) (fun _ h=>by cases h) datumSoundsUpto_row_tie rfl ⟨rfl,rfl⟩ (by kernel_rfl) rfl datumSounds.plain (by kernel_rfl)
#print axioms datumSounds_holds
end Go.Proofs.YtjhkejihhpnooaaGreatDoor
