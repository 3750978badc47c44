/- DatumQuotes -/
import Derived.Test.YtgjohjfehgdgbaaGreatDoorRows
import Derived.Test.YtgjohjfehgdgbaaGreatDoorPdatumq11j
import Derived.Test.YtgjohjfehgdgbaaGreatDoorArgs
import Derived.WalkKit
import Derived.ProofKit
import Derived.OpenShut
import Derived.ShutString
import Derived.ChangeOld
import Derived.Below
import Derived.SizedLaws
import Derived.Handed
import Derived.Lib.LaidU8T
import Derived.Test.YtgjohjfehgdgbaaGreatDoorCards
import Derived.Test.YtgjohjfehgdgbaaGreatDoorTie
import Derived.Lay
import Derived.LaidOnce
import Derived.SevenTiedAt
import Derived.MakeChecks
namespace Go.Proofs.YtgjohjfehgdgbaaGreatDoor.datumQuotes
open Go.ChangeShapes Go.WideShapes Go.ChangeAt Go.RowKit
open Go.ChangeMaps (open_string shut_string)
open Go.Proofs.YtgjohjfehgdgbaaGreatDoor.G
set_option linter.unusedVariables false
set_option linter.unusedSimpArgs false

theorem own: ownKnob Tryz.prog.godebug=none:=by kernel_rfl
theorem laidOut: laidOutB Tryz.prog=true:=by kernel_rfl
theorem bytesU: Tryz.prog.bytesOf 99=4:=by kernel_rfl

theorem mem_first : ("unicode/utf8.first", Lib.firstData) ∈ Rows.datumQuotesRow.laid := by
  have e:(Rows.laid_unicode_utf8_first:DataW Unit)=Lib.firstData:=by kernel_rfl
  rw[←e];unfold Rows.datumQuotesRow;simp
theorem mem_accept : ("unicode/utf8.acceptRanges", Lib.acceptData) ∈ Rows.datumQuotesRow.laid := by
  have e:(Rows.laid_unicode_utf8_acceptRanges:DataW Unit)=Lib.acceptData:=by kernel_rfl
  rw[←e];unfold Rows.datumQuotesRow;simp
theorem mem_range : ("strconv.ErrRange", Rows.laid_strconv_ErrRange) ∈ Rows.datumQuotesRow.laid := by
  unfold Rows.datumQuotesRow;simp
theorem mem_syntax : ("strconv.ErrSyntax", Rows.laid_strconv_ErrSyntax) ∈ Rows.datumQuotesRow.laid := by
  unfold Rows.datumQuotesRow;simp
set_option maxRecDepth 100000 in
theorem contract(H:Type)(enc:TypeId×Value→H)(W:World)(base:Nat)(args:Array Value)(ds gs:List (DataW H))(before:List MemPlace)
    (hval:∀(j:Nat) t v,Tryz.f6.params[j]?=some t→args[j]?=some v→Value.okWide Tryz.prog W .any base t v)
    (hW:DataW.Whole enc Tryz.prog Tryz.f6.params.toList Rows.datumQuotesSpec.vars false W args.toList ds gs before)
    (hsz0:(DataW.weightsEach Tryz.prog (Tryz.f6.params.toList++Rows.datumQuotesSpec.plain.varTypes Tryz.prog) (ds++gs)).all (· ≤ reachBytes)=true) (hL:laidMetH Tryz.prog Rows.datumQuotesRow.laid W) (hO:World.ShapedOpen Tryz.prog W) :
    Calls Tryz.prog 6 args W fun e W'=>∃v,e=.returned v∧Rows.datumQuotesSpec.post enc Tryz.prog Tryz.f6 false true false false W args v W':=by
  have hT:G.Tabs8 W:=by
    rw[MakeChecks.laidMetH_plain _ _ _ (by kernel_rfl)]at hL;exact utf8Tabs_of_readsT (U8Types.of196 Tryz.laysValid) ⟨by kernel_rfl,by kernel_rfl,by kernel_rfl,by kernel_rfl,by kernel_rfl,by kernel_rfl,by kernel_rfl⟩ (Lib.laidMet.reads hL mem_first) (Lib.laidMet.reads hL mem_accept)
  have hE:Env W:=by
    rw[MakeChecks.laidMetH_plain _ _ _ (by kernel_rfl)]at hL;exact jyg hT (Lib.laidMet.reads hL mem_range) (Lib.laidMet.reads hL mem_syntax) hO
  have hW':=hW;obtain⟨p,q,hA0,hV,rfl,hfz,hnd⟩:=hW;have hA:DataW.TrodAll enc Tryz.prog W 0 (fun _=>true) true Tryz.f6.params.toList args.toList ds p:=hA0;have hsz:(DataW.weightsEach Tryz.prog (Tryz.f6.params.toList++Rows.datumQuotesSpec.plain.varTypes Tryz.prog) (ds++gs)).all (· ≤ reachBytes)=true:=hsz0;clear hsz0;rw[Tryz.params6]at hA hval hsz;obtain⟨v0,vs0,d0,ds0,p0,q0,hargs,rfl,rfl,h0,r0⟩:=trodAll_cons hA;obtain⟨rfl,rfl,rfl⟩:=trodAll_nil r0;obtain rfl:args=#[v0]:=by cases args; simp_all
  obtain⟨rfl,rfl⟩:=trodVars_none hV;obtain⟨a0,rfl,rfl,rfl,w0⟩:=open_string Tryz.underlying9 (hval 0 9 v0 rfl rfl) h0;have s0:a0.size≤140737488351232:=by
    have:=sized_string hsz (j:=0) (t:=9) rfl rfl;simp only[reachBytes,Array.length_toList]at this;exact this
  clear hA0;refine(zsg hE s0).mono fun e W' ⟨he,bel⟩=>?_;subst he;exact⟨_,rfl,_,_,_,[],_,[],hW',trodAll_mk1 (shut_bool Tryz.underlying4 _),(trodAll_cons_mk (shut_string Tryz.underlying9 w0) trodAll_mk0),rfl,bel.frame _,fun h=>by cases h⟩

set_option maxRecDepth 100000 in
theorem lifted(os:Os)(started:os.Started)(H:Type)(enc:TypeId×Value→H):
    ReturnsInHanded {} Tryz.checked os 6 .any (fun w args=>(Rows.datumQuotesSpec.pre enc Tryz.prog Tryz.f6 [] false w args∧laidMetH Tryz.prog Rows.datumQuotesRow.laid w)∧sizedMet enc Tryz.prog Tryz.f6 (OpenSpec.ofChange Rows.datumQuotesSpec) false w args) (Rows.datumQuotesSpec.post enc Tryz.prog Tryz.f6 false true false false):=by
  refine returnsInHanded_of_calls (C:=Tryz.checked) own started (by kernel_rfl)
    (ChangeSpec.witness_shaped (enc:=enc) (C:=Tryz.checked) (os:=os) (X:=fun w _=>laidMetH Tryz.prog Rows.datumQuotesRow.laid w) false (World.laidAll Tryz.prog os Rows.datumQuotesRow.laid) #[.string .empty] 8 (World.laidAll_os _ _ _)
      (World.shaped_of_ZipB (by kernel_rfl) (by kernel_rfl)) (by kernel_rfl) (by kernel_rfl) (by kernel_rfl)
      (by rw[MakeChecks.laidMetH_plain _ _ _ (by kernel_rfl)]; exact laidMet_laidAll _ (by kernel_rfl) (by kernel_rfl))) ?_
  rintro w tape i _ hsh _ ⟨_,_,_,fn',hfn',_,_,_,_,hval⟩ ⟨⟨⟨ds,gs,before,hw,_⟩,hx⟩,hz⟩ _;obtain rfl:fn'=Tryz.f6:=Option.some.inj (hfn'.symm.trans Tryz.func6);refine(contract H enc (w.forCall tape i) w.heap.size i.args ds gs before hval (DataW.Whole.of_heap (w':=w.forCall tape i) (by rfl) hw) (hz.weights hw) (hx.of_heap (by rfl)) hsh).mono fun e W' ⟨v,he,hp⟩=>?_;subst he;exact ChangeSpec.post_blind hp

theorem proved: Rows.DatumQuotesSaid:=
  OpenClaim.holds_of_wide 6 Tryz.f6 rfl rfl rfl rfl rfl rfl rfl ⟨rfl,rfl,rfl,rfl,rfl⟩ rfl rfl rfl rfl rfl (by kernel_rfl) Tryz.func6 (by kernel_rfl)
    (of_decide_eq_true (by kernel_rfl)) (by unfold Func.isWrapper; first | (rw[if_pos (by decide +kernel)]; kernel_rfl) | (rw[if_neg (by decide +kernel)]; exact⟨rfl,rfl⟩))
    (fun os started H enc _=>lifted os started H enc)
end Go.Proofs.YtgjohjfehgdgbaaGreatDoor.datumQuotes
namespace Go.Proofs.YtgjohjfehgdgbaaGreatDoor
open Go
theorem datumQuotes_holds: Rows.DatumQuotesCardSaid:=
  Claim7.holds_tied_plain_at .later [] [.data, .data, .data, .data, .sentinel, .sentinel, .pinned] true (true, "518e4971ded9656ef41371ecddb846d98ca9058a6e7034b04b42967e9353f227") true datumQuotes.proved (fun _ h => by cases h) (by kernel_rfl) (fun _ h => by cases h) datumQuotes_row_tie rfl ⟨rfl, rfl⟩ (by kernel_rfl) rfl
    (fun f fn hf hfn=>by
      obtain rfl : f = 6 := Option.some.inj ((show Tryz.prog.funcNamed "sextant/sextantlaw08.DatumQuotes" = some 6 by kernel_rfl).symm.trans hf) |>.symm
      obtain rfl:fn=Tryz.f6:=(Option.some.inj (Tryz.func6.symm.trans hfn)).symm;exact⟨by kernel_rfl,fun j t ht=>by
        rw[Tryz.params6]at ht;have hm:t∈[9]:=(by simpa using Array.mem_of_getElem? ht);have hall:([9].all fun u=>!Tryz.prog.wantsStandIn u)=true:=(by kernel_rfl);exact(show Tryz.prog.wantsStandIn t=false by simpa using List.all_eq_true.1 hall t hm)⟩)
    (by kernel_rfl)
#print axioms datumQuotes_holds
end Go.Proofs.YtgjohjfehgdgbaaGreatDoor
