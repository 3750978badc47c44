/- TwD ChI ChJ Tx ShelfE Fj Ty TwG ShelfG Tz TwH Ua Bulk ArgC ArgB ArgD TwI TwJ TwK Ub UdA Os Uc -/
import Derived.Test.YtmnlfahgklnpeaaGreatDoorPcondte9i
import Derived.Test.YtmnlfahgklnpeaaGreatDoorOwn
import Derived.Laws.Runes
import Derived.Shelf.Strings.Builder1
import Derived.Shelf.Small.Utf8
import Derived.Shelf.Small.Bits
import Derived.Shelf.Small.Strs
import Derived.Shelf.Small.Wraps
import Derived.Shelf.Strings.BuilderF
import Derived.Shelf.Strings.BuilderK
import Derived.Shelf.Strings.BuilderRune
import Derived.Shelf.Utf8.AppendRune
import Derived.Shelf.Utf8.AppendRunePlain
import Derived.Shelf.Strconv.Itoa0
import Derived.Shelf.Strconv.Itoa1
import Derived.Shelf.LaysM
import Derived.Shelf.Strconv.Itoa2
import Derived.Shelf.Strconv.Itoa3
import Derived.Shelf.Strconv.Clone
import Derived.Shelf.Strings.Search1
import Derived.Shelf.Strings.Prefix
import Derived.Shelf.Strings.Runes
import Derived.Lib.SmallJoins
import Derived.Test.YtmnlfahgklnpeaaGreatDoorRows
import Derived.WalkKit
import Derived.ProofKit
import Derived.OpenShut
import Derived.ChangeOld
import Derived.Deep.Strs
import Derived.Deep.Slices
import Derived.Lib.MapLaws
set_option linter.unusedVariables false
set_option linter.unusedSimpArgs false
set_option maxHeartbeats 4000000
set_option maxRecDepth 1000000
namespace Go.Proofs.YtmnlfahgklnpeaaGreatDoor.G
open Go.RowKit
theorem TwD_fld_182_0: FieldAt Tryz.prog 182 0 0:=⟨_,_,lh,rfl,rfl,by kernel_rfl⟩
theorem zzi{w0 w:World}{gw:Nat}{p v:Value}{pl:Bool}{bs:List UInt8}{T:List Ck}(hp:p=.pointer none∨p=(pA gw 0))(hM0:Mg w0 w (.obj gw (.cells #[p,v,bV pl] 182)::.row BY 1 v bs.length (Lib.byteCells bs)::T))(hT:QT T)  (hroom:bs.length+([35,116]).length≤1000000000):Calls Tryz.prog 193 #[pA gw 0,bV true] w fun e w'=>e=.returned (.tuple #[])∧∃v',Mg w0 w' (.obj gw (.cells #[pA gw 0,v',bV pl] 182)::.row BY 1 v' (bs++([35,116])).length (Lib.byteCells (bs++([35,116])))::T):=by
 have M:Mg w0 w (.obj gw (.cells #[p,v,bV pl] 182)::.row BY 1 (v) bs.length ((Lib.byteCells bs))::T):=hM0;refine wof Tryz.func193 Tryz.ntmps193 fun Q hret hnorm hP a A=>?_;refine wsr fun _ aa=>sdm A λA=>?_;refine qct aa A ?_;refine wrl (sdm A λA=>?_);refine sdn A λA=>?_;refine sdf A 0 TwD_fld_182_0 λA=>?_;refine sct A ec (jo hp (toW (X:=[]) M) (s:=⟨#[35,116]⟩) (by simp only[fv,fw,fx,Array.size,ByteArray.size,gg]at *; omega)) ?_;rintro _ _ ⟨rfl,v2,ab⟩;replace M:=(zi (X:=[]) ab);refine⟨_,rfl,?_⟩;intro a A;refine qa (hnorm _ _ (jq (v:=.tuple #[]) A rfl .nil rfl ?_));refine⟨rfl,v2,?_⟩;have ac:=M.sub (L':=_::_::T) (cC (cC (.refl _)));simpa only[f4,gh,gq,f8]using ac
theorem zsf{w0 w:World}{gw:Nat}{p v:Value}{pl:Bool}{bs:List UInt8}{T:List Ck}(hp:p=.pointer none∨p=(pA gw 0))(hM0:Mg w0 w (.obj gw (.cells #[p,v,bV pl] 182)::.row BY 1 v bs.length (Lib.byteCells bs)::T))(hT:QT T)  (hroom:bs.length+([35,102]).length≤1000000000):Calls Tryz.prog 193 #[pA gw 0,bV false] w fun e w'=>e=.returned (.tuple #[])∧∃v',Mg w0 w' (.obj gw (.cells #[pA gw 0,v',bV pl] 182)::.row BY 1 v' (bs++([35,102])).length (Lib.byteCells (bs++([35,102])))::T):=by
 have M:Mg w0 w (.obj gw (.cells #[p,v,bV pl] 182)::.row BY 1 (v) bs.length ((Lib.byteCells bs))::T):=hM0;refine wof Tryz.func193 Tryz.ntmps193 fun Q hret hnorm hP a A=>?_;refine wsr fun _ aa=>sdm A λA=>?_;refine qcf aa A ?_;refine wrl (sdm A λA=>?_);refine sdn A λA=>?_;refine sdf A 0 TwD_fld_182_0 λA=>?_;refine sct A ec (jo hp (toW (X:=[]) M) (s:=⟨#[35,102]⟩) (by simp only[fv,fw,fx,Array.size,ByteArray.size,gg]at *; omega)) ?_;rintro _ _ ⟨rfl,v2,ab⟩;replace M:=(zi (X:=[]) ab);refine⟨_,rfl,?_⟩;intro a A;refine qa (hnorm _ _ (jq (v:=.tuple #[]) A rfl .nil rfl ?_));refine⟨rfl,v2,?_⟩;have ac:=M.sub (L':=_::_::T) (cC (cC (.refl _)));simpa only[f4,gh,gq,f8]using ac
theorem jsa{w0 w:World}{gw:Nat}{v:Value}{pl:Bool}{bs:List UInt8}{T:List Ck}(hM0:Mg w0 w (.obj gw (.cells #[pA gw 0,v,bV pl] 182)::.row BY 1 v bs.length (Lib.byteCells bs)::T)):Calls Tryz.prog 250 #[pA gw 0,iV 0] w fun e w'=>e=.returned (.tuple #[])∧Mg w0 w' (.obj gw (.cells #[pA gw 0,v,bV pl] 182)::.row BY 1 v bs.length (Lib.byteCells bs)::T):=by
 have M:Mg w0 w (.obj gw (.cells #[pA gw 0,v,bV pl] 182)::.row BY 1 (v) bs.length ((Lib.byteCells bs))::T):=hM0;refine wof Tryz.func250 Tryz.ntmps250 fun Q hret hnorm hP a A=>?_;refine wsr fun _ aa=>sdm A λA=>?_;refine sdo (v:=bV false) A dbK λA=>?_;refine qcf aa A ?_;refine wp_skip (hnorm _ _ (jq (v:=.tuple #[]) A rfl .nil rfl ?_));exact⟨rfl,M⟩
theorem jsb{w0 w:World}{gw:Nat}{p v:Value}{pl:Bool}{bs:List UInt8}{T:List Ck}(hp:p=.pointer none∨p=(pA gw 0))(hM0:Mg w0 w (.obj gw (.cells #[p,v,bV pl] 182)::.row BY 1 v bs.length (Lib.byteCells bs)::T))(hT:QT T){i:Int}(hi:0<i)(hroom:bs.length+([32]).length≤1000000000):Calls Tryz.prog 250 #[pA gw 0,iV i] w fun e w'=>e=.returned (.tuple #[])∧∃v',Mg w0 w' (.obj gw (.cells #[pA gw 0,v',bV pl] 182)::.row BY 1 v' (bs++([32])).length (Lib.byteCells (bs++([32])))::T):=by
 have M:Mg w0 w (.obj gw (.cells #[p,v,bV pl] 182)::.row BY 1 (v) bs.length ((Lib.byteCells bs))::T):=hM0;refine wof Tryz.func250 Tryz.ntmps250 fun Q hret hnorm hP a A=>?_;refine wsr fun _ aa=>sdm A λA=>?_;refine sdo (v:=bV true) A (qb rfl rfl (fun w=>(jh w).trans (by rw[show(decide (0<i))=true from(gv hi)]))) λA=>?_;refine qct aa A ?_;refine wrl (sdm A λA=>?_);refine sdn A λA=>?_;refine sdf A 0 TwD_fld_182_0 λA=>?_;refine sct A ec (zx hp (toW (X:=[]) M) hT (b:=32) (by simp only[fv,fw,fx,Array.size,ByteArray.size,gg]at *; omega)) ?_;rintro _ _ ⟨rfl,v2,ab⟩;replace M:=(zi (X:=[]) ab);refine⟨_,rfl,?_⟩;intro a A;refine qa (hnorm _ _ (jq (v:=.tuple #[]) A rfl .nil rfl ?_));refine⟨rfl,v2,?_⟩;have ac:=M.sub (L':=_::_::T) (cC (cC (.refl _)));simpa only[f4,gh,gq,f8]using ac
theorem xic{w0 w:World}{gw:Nat}{p v:Value}{pl:Bool}{bs:List UInt8}{T:List Ck}(hp:p=.pointer none∨p=(pA gw 0))(hM0:Mg w0 w (.obj gw (.cells #[p,v,bV pl] 182)::.row BY 1 v bs.length (Lib.byteCells bs)::T))(hT:QT T){s:ByteArray}(hroom:bs.length+([35,60]++s.data.toList++[62]).length≤1000000000):Calls Tryz.prog 201 #[pA gw 0,.string s] w fun e w'=>e=.returned (.tuple #[])∧∃v',Mg w0 w' (.obj gw (.cells #[pA gw 0,v',bV pl] 182)::.row BY 1 v' (bs++([35,60]++s.data.toList++[62])).length (Lib.byteCells (bs++([35,60]++s.data.toList++[62])))::T):=by
 have M:Mg w0 w (.obj gw (.cells #[p,v,bV pl] 182)::.row BY 1 (v) bs.length ((Lib.byteCells bs))::T):=hM0;refine wof Tryz.func201 Tryz.ntmps201 fun Q hret hnorm hP a A=>?_;refine wsr fun _ ab=>sdm A λA=>?_;refine sdn A λA=>?_;refine sdf A 0 TwD_fld_182_0 λA=>?_;refine sct A ec (jo hp (toW (X:=[]) M) (s:=⟨#[35,60]⟩) (by simp only[fv,fw,fx,Array.size,ByteArray.size,gg]at *; omega)) ?_;rintro _ _ ⟨rfl,_,ac⟩;replace M:=(zi (X:=[]) ac);refine⟨_,rfl,?_⟩;intro a A;refine qwr ab fun _ ae=>sdm A λA=>?_;refine sdn A λA=>?_;refine sdf A 0 TwD_fld_182_0 λA=>?_;refine sdm A λA=>?_;refine sct A ec (jo (.inr rfl) (toW (X:=[]) M) (s:=s) (by simp only[fv,fw,fx,Array.size,ByteArray.size,gg]at *; omega)) ?_;rintro _ _ ⟨rfl,_,af⟩;replace M:=(zi (X:=[]) af);refine⟨_,rfl,?_⟩;intro a A;refine qa (ae _ _ (wrl (sdm A λA=>?_)));refine sdn A λA=>?_;refine sdf A 0 TwD_fld_182_0 λA=>?_;refine sct A ec (zx (.inr rfl) (toW (X:=[]) M) hT (b:=62) (by simp only[fv,fw,fx,Array.size,ByteArray.size,gg]at *; omega)) ?_;rintro _ _ ⟨rfl,v9,aa⟩;replace M:=(zi (X:=[]) aa);refine⟨_,rfl,?_⟩;intro a A;refine qa (hnorm _ _ (jq (v:=.tuple #[]) A rfl .nil rfl ?_));refine⟨rfl,v9,?_⟩
 have ag:=M.sub (L':=_::_::T) (cC (cC (.refl _)));simpa only[f4,gh,gq,f8]using ag
end Go.Proofs.YtmnlfahgklnpeaaGreatDoor.G
namespace Go.Proofs.YtmnlfahgklnpeaaGreatDoor.C
open Go.RowKit

def dc(k:Nat):UInt8:=(48+k).toUInt8
def decD(n:Nat):List UInt8:=if n<10 then[dc n]else decD (n / 10)++[dc (n%10)]
termination_by n
decreasing_by omega
def zmd(b:Bool)(k:Nat):List UInt8:=if b=true∨k≠0 then decD k else[]
theorem jjc{b:Bool}{k:Nat}(h:b=true∨k≠0):zmd b k=zmd false (k / 10)++[dc (k%10)]:=by
  unfold zmd;rw[gj h];by_cases h16:k<10
  · rw[decD,gj h16,f7 (by simp; omega),Nat.mod_eq_of_lt h16]; rfl
  · rw[decD,f7 h16,gj (by simp; omega)]
theorem xid(k:Nat):((dc (k%10)).toNat:Int)=48+((k:Nat):Int)%10:=by
  unfold dc;have:k%10<10:=Nat.mod_lt _ (by decide);have h2:((48+k%10).toUInt8).toNat=48+k%10:=by simp; omega
  rw[h2]; omega
theorem rdec_any(n:Nat)(hn:n≤255)(w:World):Calls Tryz.prog 112 #[.int .i64 ((n:Nat):Int)] w fun e w'=>e=.returned (.string ⟨(decD n).toArray⟩)∧Below w.heap.size w w':=by
  go_enter Tryz.func112,Tryz.ntmps112
  go_wp2
  go_loopw [0,3,4] (fun v s f wr=>∃(k:Nat) (t:List UInt8) (b:Bool),v=.int .i64 ((k:Nat):Int)∧s=.string ⟨t.toArray⟩∧f=.bool b∧k≤255∧t.length+k+isT f≤256∧Below w.heap.size w wr∧Hid (decD n=zmd b k++t)) (fun v s f wr=>(intOf v).toNat+isT f)
  case atStart=>exact⟨n,[],true,rfl,rfl,rfl,hn,by simp[isT]; omega,Below.refl _ _,by show decD n=zmd true n++[]; unfold zmd; simp⟩
  case round=>
    obtain⟨k,t,b,rfl,rfl,rfl,hk,htl,hbw,HT⟩:=hrel;have hcv:∀c:UInt8,(convert 27 9 (.slice (some ⟨wr.heap.size,0,none⟩) 1 1)).run Tryz.prog (wr.alloc (.cells #[.int .u8 ((c.toNat:Nat):Int)] 5))=.ok (.string ⟨#[c]⟩) (wr.alloc (.cells #[.int .u8 ((c.toNat:Nat):Int)] 5)):=fun c=>
      run_convert_bytes_back _ _ _ _ ⟨wr.heap.size,0,none⟩ 1 [c] ib ir gi (fun j hj=>by
        obtain rfl:j=0:=(by simpa using hj);exact xef _ _ _)
    have hlast:∀b,(b=true∨k≠0)→Hid (decD n=zmd b k++t)→decD n=zmd false (k / 10)++(dc (k%10)::t):=fun b hb h=>by
      have h2:decD n=zmd b k++t:=h;rw[h2,jjc hb,f4]; rfl
    have hcv2:(convert 27 9 (.slice (some ⟨wr.heap.size,0,none⟩) 1 1)).run Tryz.prog (wr.alloc (.cells #[.int .u8 (48+((k:Nat):Int)%10)] 5))=.ok (.string ⟨#[dc (k%10)]⟩) (wr.alloc (.cells #[.int .u8 (48+((k:Nat):Int)%10)] 5)):=by
      rw[←xid k]; exact hcv (dc (k%10))
    clear hcv;have hal:∀o,Below w.heap.size w (wr.alloc o):=fun o=>hbw.alloc hbw.size _;rcases b with _|_
    · by_cases ab:k=0
      · subst ab;have HT2:decD n=t:=HT.out;have HT3:Hid (decD n=t):=HT2;clear HT HT2
        go_wp2
        go_ret
        exact⟨by rw[←HT3.out]; rfl,hbw⟩
      · have _:(0:Int)<(k:Int):=(by omega);have aa:=hlast false (.inr ab) HT;have HL:Hid _:=aa;clear aa hlast HT
        go_wp2
        refine⟨⟨k / 10,dc (k%10)::t,false,by simp,by rw[xbi],rfl,by omega,by simp[isT]at *; omega,hal _,HL.out⟩,by simp[intOf,isT]; omega⟩
    · have aa:=hlast true (.inl rfl) HT;have HL:Hid _:=aa;clear aa hlast HT
      go_wp2
      refine⟨⟨k / 10,dc (k%10)::t,false,by simp,by rw[xbi],rfl,by omega,by simp[isT]at *; omega,hal _,HL.out⟩,by simp[intOf,isT]; omega⟩
def strC(r:Int):List UInt8:=
  if r=34 then[92,34]else if r=92 then[92,92]else if r=7 then[92,97]else if r=8 then[92,98]else if r=9 then[92,116]else if r=10 then[92,110]else if r=11 then[92,118]else if r=12 then[92,102]else if r=13 then[92,114]
  else if ctlB r=true∨r=8232∨r=65279 then[92,120]++hexD r.toNat++[59]else Lib.encodeRune r
theorem hexD_len: ∀n:Nat,n≤1114111→(hexD n).length≤6:=by
  have key:∀(f n:Nat),1≤f→n<16^f→(hexD n).length≤f:=by
    intro f
    induction f with
    | zero => intro n h; omega
    | succ f ih =>
      intro n _ hn;rw[hexD];by_cases h16:n<16
      · rw[gj h16]; simp
      · rw[f7 h16];have hf:1≤f:=by
          rcases f with _|f
          · simp at hn; omega
          · omega
        have:=ih (n / 16) hf (by rw[Nat.div_lt_iff_lt_mul (by decide)]; rw[Nat.pow_succ]at hn; exact hn);simp; omega
  intro n hn;exact key 6 n (by decide) (by have:(16:Nat)^6=16777216:=(by decide); omega)
theorem strC_len(r:Int)(h0:0≤r)(h1:r≤1114111):(strC r).length≤9:=by
  unfold strC;have h6:=hexD_len r.toNat (by omega);have h4:=encodeRune_len r;repeat (split; · simp)
  split
  · simp; omega
  · omega
end Go.Proofs.YtmnlfahgklnpeaaGreatDoor.C
namespace Go.Proofs.YtmnlfahgklnpeaaGreatDoor.G
open Go.RowKit Go.Lib

def jw(r:Int):List UInt8:=[92,120]++C.hexD r.toNat
def qad(pl:Bool)(r:Int):List UInt8:=if pl=true then encodeRune r else[35]++(if C.nameL r≠⟨#[]⟩then[92]++(C.nameL r).data.toList else if(C.blankB r||C.ctlB r)=true then jw r else[92]++encodeRune r)
def qlc(pl:Bool)(s:ByteArray):List UInt8:=if pl=true then s.data.toList else[34]++(ze s.data.toList).flatMap C.strC++[34]
def inS(first:Bool)(r:Int):List UInt8:=if(C.firstB r||(!first&&C.restB r))=true then encodeRune r else jw r++[59]
def inL(first:Bool):List Int→List UInt8
  | [] => []
  | r :: rs => inS first r ++ inL false rs
def qaj(pl:Bool)(s:ByteArray):List UInt8:=if pl=true∨s=⟨#[43]⟩∨s=⟨#[45]⟩∨s=⟨#[46,46,46]⟩then s.data.toList else if s=⟨#[]⟩then[124,124]else if hasPrefix s.data.toList [45,62]=true then[45,62]++inL false (ze (s.data.toList.drop 2))else inL true (ze s.data.toList)
def quh(first:Bool):List UInt8→List UInt8
  | [] => []
  | b :: bs => (if first = true then [] else [32]) ++ C.decD b.toNat ++ quh false bs
def zmf(rl:List UInt8):List UInt8:=[35,118,117,56,40]++quh true rl++[41]
def vd(pl:Bool)(k n:Int)(q:Q6)(s:ByteArray)(rl:List UInt8):List UInt8:=
  if k=1 then[40,41]else if k=2 then(if n=1 then[35,116]else[35,102])else if k=3 then jv 10 q else if k=4 then qad pl n else if k=5 then qlc pl s else if k=6 then qaj pl s else if k=7 then zmf rl else if k=10 then[35,60,118,111,105,100,62]else[35,60]++s.data.toList++[62]
def isQ(t:Tr):Bool:=decide (t.k=6)&&decide (t.s=⟨#[113,117,111,116,101]⟩)
mutual
def wrT(pl:Bool):Tr→List UInt8
  | .mk k n q s rl ts => if k = 8 then prT pl ts else if k = 9 then [35, 40] ++ wrL pl true ts ++ [41] else vd pl k n q s rl
def prT(pl:Bool):List Tr→List UInt8
  | [] => []
  | [_] => []
  | a :: b :: _ => if (isQ a && qtT b) = true then [39] ++ itT pl b else [40] ++ wrT pl a ++ tlT pl b ++ [41]
def tlT(pl:Bool):Tr→List UInt8
  | .mk k n q s rl ts => if k = 8 then tl2 pl ts else if k = 1 then [] else [32, 46, 32] ++ (if k = 9 then [35, 40] ++ wrL pl true ts ++ [41] else vd pl k n q s rl)
def tl2(pl:Bool):List Tr→List UInt8
  | [] => []
  | [_] => []
  | a :: b :: _ => [32] ++ wrT pl a ++ tlT pl b
def wrL(pl:Bool)(first:Bool):List Tr→List UInt8
  | [] => []
  | t :: ts => (if first = true then [] else [32]) ++ wrT pl t ++ wrL pl false ts
def itT(pl:Bool):Tr→List UInt8
  | .mk _ _ _ _ _ ts => it2 pl ts
def it2(pl:Bool):List Tr→List UInt8
  | [] => []
  | a :: _ => wrT pl a
def qtT: Tr→Bool
  | .mk k _ _ _ _ ts => decide (k = 8) && decide ((ts.getD 1 (.mk 0 0 Q6.none ⟨#[]⟩ [] [])).k = 1)
end
end Go.Proofs.YtmnlfahgklnpeaaGreatDoor.G
namespace Go.Proofs
open Go.Shelf
def Tryz.laysItoa_ren: Go.Shelf.Ren:=⟨fun|171=>251|243=>286|246=>309|283=>325|284=>326|285=>327|286=>328|129=>137|317=>334|318=>335|319=>336|320=>337|337=>343|338=>344|n=>n,fun|3=>3|9=>9|2=>2|4=>4|171=>293|0=>0|53=>91|37=>27|5=>5|173=>295|212=>301|51=>144|20=>20|213=>302|46=>142|232=>306|233=>307|n=>n,fun|17=>4|18=>5|19=>6|n=>n⟩
theorem Tryz.laysItoa: Go.Proofs.LaysM.n171 Tryz.prog Tryz.laysItoa_ren:={
  mixed:=by kernel_rfl
  f129:=Tryz.func137.trans (congrArg some (by kernel_rfl))
  f171:=Tryz.func251.trans (congrArg some (by kernel_rfl))
  f243:=Tryz.func286.trans (congrArg some (by kernel_rfl))
  f246:=Tryz.func309.trans (congrArg some (by kernel_rfl))
  f283:=Tryz.func325.trans (congrArg some (by kernel_rfl))
  f284:=Tryz.func326.trans (congrArg some (by kernel_rfl))
  f285:=Tryz.func327.trans (congrArg some (by kernel_rfl))
  f286:=Tryz.func328.trans (congrArg some (by kernel_rfl))
  f317:=Tryz.func334.trans (congrArg some (by kernel_rfl))
  f318:=Tryz.func335.trans (congrArg some (by kernel_rfl))
  f319:=Tryz.func336.trans (congrArg some (by kernel_rfl))
  f320:=Tryz.func337.trans (congrArg some (by kernel_rfl))
  f337:=Tryz.func343.trans (congrArg some (by kernel_rfl))
  f338:=Tryz.func344.trans (congrArg some (by kernel_rfl))
  t0:=Tryz.underlying0
  a0:=Tryz.isAgg0
  z0:=Tryz.sizeOf0
  v0:=Tryz.zeroValue0
  t2:=Tryz.underlying2
  a2:=Tryz.isAgg2
  z2:=Tryz.sizeOf2
  v2:=Tryz.zeroValue2
  t3:=Tryz.underlying3
  a3:=Tryz.isAgg3
  z3:=Tryz.sizeOf3
  v3:=Tryz.zeroValue3
  t4:=Tryz.underlying4
  a4:=Tryz.isAgg4
  z4:=Tryz.sizeOf4
  v4:=Tryz.zeroValue4
  t5:=Tryz.underlying5
  a5:=Tryz.isAgg5
  z5:=Tryz.sizeOf5
  v5:=Tryz.zeroValue5
  t9:=Tryz.underlying9
  a9:=Tryz.isAgg9
  z9:=Tryz.sizeOf9
  v9:=Tryz.zeroValue9
  t20:=Tryz.underlying20
  a20:=Tryz.isAgg20
  z20:=Tryz.sizeOf20
  v20:=Tryz.zeroValue20
  t37:=Tryz.underlying27
  a37:=Tryz.isAgg27
  z37:=Tryz.sizeOf27
  v37:=Tryz.zeroValue27
  t46:=Tryz.underlying142
  a46:=Tryz.isAgg142
  z46:=Tryz.sizeOf142
  v46:=Tryz.zeroValue142
  t51:=Tryz.underlying144
  a51:=Tryz.isAgg144
  z51:=Tryz.sizeOf144
  v51:=Tryz.zeroValue144
  t53:=Tryz.underlying91
  a53:=Tryz.isAgg91
  z53:=Tryz.sizeOf91
  v53:=Tryz.zeroValue91
  t171:=Tryz.underlying293
  a171:=Tryz.isAgg293
  z171:=Tryz.sizeOf293
  v171:=Tryz.zeroValue293
  t173:=Tryz.underlying295
  a173:=Tryz.isAgg295
  z173:=Tryz.sizeOf295
  v173:=Tryz.zeroValue295
  t212:=Tryz.underlying301
  a212:=Tryz.isAgg301
  z212:=Tryz.sizeOf301
  v212:=Tryz.zeroValue301
  t213:=Tryz.underlying302
  a213:=Tryz.isAgg302
  z213:=Tryz.sizeOf302
  t232:=Tryz.underlying306
  a232:=Tryz.isAgg306
  z232:=Tryz.sizeOf306
  v232:=Tryz.zeroValue306
  t233:=Tryz.underlying307
  a233:=Tryz.isAgg307
  z233:=Tryz.sizeOf307
  v233:=Tryz.zeroValue307
  g17:=by kernel_rfl
  g18:=by kernel_rfl
  g19:=by kernel_rfl
  i0:=by kernel_rfl
  i2:=by kernel_rfl
  i3:=by kernel_rfl
  i4:=by kernel_rfl
  i5:=by kernel_rfl
  i9:=by kernel_rfl
  i20:=by kernel_rfl
  i37:=by kernel_rfl
  i46:=by kernel_rfl
  i51:=by kernel_rfl
  i53:=by kernel_rfl
  i171:=by kernel_rfl
  i173:=by kernel_rfl
  i212:=by kernel_rfl
  i232:=by kernel_rfl
  i233:=by kernel_rfl
  m17:=by kernel_rfl
  m18:=by kernel_rfl
  m19:=by kernel_rfl }
end Go.Proofs
namespace Go.Proofs.YtmnlfahgklnpeaaGreatDoor.C
open Go.RowKit

def Tp10 (w : World) : Prop := Lib.TabIs Tryz.prog w "internal/strconv.uint64pow10" .u64 Lib.pow10Tab
theorem Tp10.below{w w':World}(h:Tp10 w)(hb:Below w.heap.size w w'):Tp10 w':=Joins.tab_stays (g:=4) (by kernel_rfl) h hb (gm _)
theorem jsf: ∀k:Fin 256,Lib.itoa (k.val:Int)=decD k.val:=by decide +kernel
theorem zsj(w:World)(k:Nat):Below w.heap.size w (w.drewN k):=by
  induction k with
  | zero => exact Below.refl _ _
  | succ k ih => exact ih.drew
theorem itoa_any{w:World}(h:Tp10 w){n:Nat}(hn:n<256):Calls Tryz.prog 251 #[.int .i64 ((n:Nat):Int)] w fun e w'=>e=.returned (.string ⟨(decD n).toArray⟩)∧Below w.heap.size w w':=by
  refine(Any.strconv_Itoa Tryz.laysItoa ((n:Nat):Int) (by omega) (by omega) w h).mono fun e w' ⟨h1,k,os,h2⟩=>?_;have e:=jsf ⟨n,hn⟩;simp only at e;rw[e]at h1;refine⟨h1,?_⟩;subst h2;have hb:=zsj w k;refine⟨hb.os,hb.tape,hb.output,?_,fun j hj=>?_⟩
  · have:=hb.size;show w.heap.size≤((w.drewN k).heap++os).size;rw[Array.size_append]; omega
  · show((w.drewN k).heap++os)[j]?=_;rw[Array.getElem?_append_left (j8 hj hb.size)];exact hb.block j hj
end Go.Proofs.YtmnlfahgklnpeaaGreatDoor.C
namespace Go.Proofs.YtmnlfahgklnpeaaGreatDoor.G
open Go.RowKit Go.Lib

theorem QT.it{g:Nat}{s:ByteArray}{p:Nat}{T:List Ck}(hT:QT T):QT (.obj g (.stringIter s p)::T):=fun d hd=>by
  rcases ik.1 hd with rfl|hd
  · exact⟨_,_,rfl,qmb _ _⟩
  · exact hT d hd
def abt(m:Nat):UInt8:=[97,98,116,110,118,102,114].getD m 0
def S7: ByteArray:=⟨#[97,98,116,110,118,102,114]⟩
theorem s7: ∀j:Fin 7,(S7.data.toList.getD j.val 0)=abt j.val:=by decide +kernel
theorem zmg{P:Program}{w:World}{l:List (Nat×Value)}{dst:Option Tmp}{ty:TypeId}{pos:String}{after:Array Edge}{guard:Option (Nat×Bool)}{t:TypeId}(ht:P.underlying t=some .string){x y:Operand}{m:Nat}{z:Int}(hx:ev l x=some (.string S7))(hy:ev l y=some (.int .i32 z))(hz:z=((m:Nat):Int))(hm:m<7):Does P l ⟨dst,.index t x y,ty,pos,after,guard⟩ w (.int .u8 (((abt m).toNat:Nat):Int)) w:=fun ρ h=>by
  subst hz;have hi:m<S7.size:=by show m<7; omega
  have:=run_index_string (P:=P) w t S7 .i32 ((m:Nat):Int) ht;have hi':m<S7.data.size:=hi;have e:S7.data.toList.getD m 0=S7[m]:=by
    rw[List.getD_eq_getElem?_getD,Array.getElem?_toList,Array.getElem?_eq_getElem hi'];rfl
  rw[←s7 ⟨m,hm⟩,e];simp[execOp,h x _ hx,h y _ hy,this,hi]
theorem jsg{n:Nat}(h0:7≤n)(h1:n≤13):C.strC ((n:Nat):Int)=[92]++[abt (n-7)]:=by
  have h:n=7∨n=8∨n=9∨n=10∨n=11∨n=12∨n=13:=by omega
  rcases h with rfl|rfl|rfl|rfl|rfl|rfl|rfl<;>rfl
theorem qkh{n:Nat}(h:n=34∨n=92):C.strC ((n:Nat):Int)=[92]++encodeRune ((n:Nat):Int):=by rcases h with rfl|rfl<;>rfl
theorem kt{n:Nat}(h:¬(7≤n∧n≤13))(h2:¬(n=34∨n=92))(h3:C.ctlB ((n:Nat):Int)=true∨((n:Nat):Int)=8232∨((n:Nat):Int)=65279):C.strC ((n:Nat):Int)=jw ((n:Nat):Int)++[59]:=by
  unfold C.strC jw;rw[f7 (by omega),f7 (by omega),f7 (by omega),f7 (by omega),f7 (by omega),f7 (by omega),f7 (by omega),f7 (by omega),f7 (by omega),gj h3]
theorem qnd{n:Nat}(h:¬(7≤n∧n≤13))(h2:¬(n=34∨n=92))(h3:¬(C.ctlB ((n:Nat):Int)=true∨((n:Nat):Int)=8232∨((n:Nat):Int)=65279)):C.strC ((n:Nat):Int)=encodeRune ((n:Nat):Int):=by
  unfold C.strC;rw[f7 (by omega),f7 (by omega),f7 (by omega),f7 (by omega),f7 (by omega),f7 (by omega),f7 (by omega),f7 (by omega),f7 (by omega),f7 h3]
theorem qae(n:Nat):jw ((n:Nat):Int)=[92,120]++C.hexD n:=by unfold jw; rw[Int.toNat_natCast]
theorem qfg{n:Nat}(h:n≤1114111):(jw ((n:Nat):Int)).length≤8:=by
  rw[qae,fv];have:=C.hexD_len n h;simp only[fw,fx];omega
theorem qfh(r:Int):(C.nameL r).data.toList.length≤9:=by
  unfold C.nameL;repeat' split
  all_goals decide
theorem qne(r:Int):(C.nameL r).size≤9:=by rw[←zm]; exact qfh r
theorem kp{n:Nat}(h:C.OkR ((n:Nat):Int)):n≤1114111:=by unfold C.OkR at h; omega
section
variable {pl:Bool} {n:Nat}
theorem xif(h:pl=true):qad pl ((n:Nat):Int)=encodeRune ((n:Nat):Int):=gj h
theorem jsh(h:pl=false)(h1:C.nameL ((n:Nat):Int)≠⟨#[]⟩):qad pl ((n:Nat):Int)=[35]++([92]++(C.nameL ((n:Nat):Int)).data.toList):=by unfold qad; rw[f7 (by rw[h]; decide),gj h1]
theorem zmh(h:pl=false)(h1:C.nameL ((n:Nat):Int)=⟨#[]⟩)(h2:(C.blankB ((n:Nat):Int)||C.ctlB ((n:Nat):Int))=true):qad pl ((n:Nat):Int)=[35]++jw ((n:Nat):Int):=by unfold qad; rw[f7 (by rw[h]; decide),f7 (fun k=>k h1),gj h2]
theorem jsi(h:pl=false)(h1:C.nameL ((n:Nat):Int)=⟨#[]⟩)(h2:(C.blankB ((n:Nat):Int)||C.ctlB ((n:Nat):Int))=false):qad pl ((n:Nat):Int)=[35]++([92]++encodeRune ((n:Nat):Int)):=by unfold qad; rw[f7 (by rw[h]; decide),f7 (fun k=>k h1),f7 (by rw[h2]; decide)]
end
open Go.RowKit
theorem TwG_is1_4: Is1 Tryz.prog 4:=⟨⟨_,lf,rfl⟩,by kernel_rfl⟩
theorem TwG_fld_182_0: FieldAt Tryz.prog 182 0 0:=⟨_,_,lh,rfl,rfl,by kernel_rfl⟩
theorem TwG_fld_182_1: FieldAt Tryz.prog 182 1 2:=⟨_,_,lh,rfl,rfl,by kernel_rfl⟩
theorem qlf{w0 w:World}{gw:Nat}{p v:Value}{pl:Bool}{bs:List UInt8}{T:List Ck}(hp:p=.pointer none∨p=(pA gw 0))(hM0:Mg w0 w (.obj gw (.cells #[p,v,bV pl] 182)::.row BY 1 v bs.length (Lib.byteCells bs)::T))(hT:QT T){n:Nat}(hn:n≤1114111)(hz:C.Tz16 w0)(hroom:bs.length+16≤1000000000):Calls Tryz.prog 246 #[pA gw 0,.int .i32 ((n:Nat):Int)] w fun e w'=>e=.returned (.tuple #[])∧∃v',Mg w0 w' (.obj gw (.cells #[pA gw 0,v',bV pl] 182)::.row BY 1 v' (bs++(jw ((n:Nat):Int))).length (Lib.byteCells (bs++(jw ((n:Nat):Int))))::T):=by
 have _:=C.hexD_len n hn;have M:Mg w0 w (.obj gw (.cells #[p,v,bV pl] 182)::.row BY 1 (v) bs.length ((Lib.byteCells bs))::T):=hM0;refine wof Tryz.func246 Tryz.ntmps246 fun Q hret hnorm hP a A=>?_;refine wsr fun _ aa=>sdm A λA=>?_;refine sdn A λA=>?_;refine sdf A 0 TwG_fld_182_0 λA=>?_;refine sct A ec (jo hp (toW (X:=[]) M) (s:=⟨#[92,120]⟩) (by first|omega|(simp only[fv,fw,fx]; omega)|(simp only[fv,fw,fx,ByteArray.size,gg,Array.size]; omega))) ?_;rintro _ _ ⟨rfl,_,ab⟩;replace M:=(zi (X:=[]) ab);refine⟨_,rfl,?_⟩;intro a A;refine qa (aa _ _ (xg (S:=fun w1=>Mg w0 w1 ([])) (by kernel_rfl) ?_));replace M:=M.drew;refine atk A 0 rfl hP (M.sub (cN (cN ns))) (λ_ M=>zr rfl) λA=>?_;refine atk A 1 rfl hP (M.sub (cN (cN ns))) (λ_ M=>qef rfl) λA=>?_;refine atk (v:=pA gw 0) A 2 rfl hP (M.sub (cN (cN ns))) (λ_ M=>qp TwG_fld_182_0 rfl rfl) λA=>?_;refine atk A 3 rfl hP (M.sub (cN (cN ns))) (λ_ M=>zr rfl) λA=>?_;refine atk (v:=iV (((n:Nat):Int))) A 4 rfl hP (M.sub (cN (cN ns))) (λ_ M=>zk rfl (ar_conv iz Tryz.underlying2 (in_i64 (by omega) (by omega)))) λA=>?_;refine zn (by kernel_rfl) (jc A 5 rfl rfl rfl rfl ec (xib (vq hz M.bel) hn) ?_);rintro _ _ ⟨rfl,ac⟩;replace M:=M.call ac;refine⟨_,rfl,(M.sub (cN (cN ns))),?_⟩;intro a A;refine zn (by kernel_rfl) (jc A 6 rfl rfl rfl rfl ec (jo (.inr rfl) (toW (X:=[]) M) (s:=⟨(C.hexD n).toArray⟩) (by first|omega|(simp only[fv,fw,fx]; omega)|(simp only[fv,fw,fx,ByteArray.size,gg,Array.size]; omega))) ?_);rintro _ _ ⟨rfl,v8,ae⟩
 replace M:=(zi (X:=[]) ae);refine⟨_,rfl,(M.sub (cN (cN ns))),?_⟩;intro a A;refine jl (by kernel_rfl) ?_;refine hnorm _ _ (jq (v:=.tuple #[]) A rfl .nil rfl ?_);refine⟨rfl,v8,?_⟩;have af:=M.sub (L':=_::_::T) (cC (cC (.refl _)));rw[show jw ((n:Nat):Int)=([92,120])++(C.hexD n)from qae n];simpa only[f4,gh,gq,f8]using af
theorem xla{w0 w:World}{gw:Nat}{p v:Value}{pl:Bool}{bs:List UInt8}{T:List Ck}(hp:p=.pointer none∨p=(pA gw 0))(hM0:Mg w0 w (.obj gw (.cells #[p,v,bV pl] 182)::.row BY 1 v bs.length (Lib.byteCells bs)::T))(hT:QT T){n:Nat}(ho:C.OkR ((n:Nat):Int))(hz:C.Tz16 w0)(hroom:bs.length+64≤1000000000):Calls Tryz.prog 195 #[pA gw 0,.int .i32 ((n:Nat):Int)] w fun e w'=>e=.returned (.tuple #[])∧∃v',Mg w0 w' (.obj gw (.cells #[pA gw 0,v',bV pl] 182)::.row BY 1 v' (bs++(qad pl ((n:Nat):Int))).length (Lib.byteCells (bs++(qad pl ((n:Nat):Int))))::T):=by
 have hn:=kp ho;have _:=qfg hn;have _:=qfh ((n:Nat):Int);have _:=qne ((n:Nat):Int);have M:Mg w0 w (.obj gw (.cells #[p,v,bV pl] 182)::.row BY 1 (v) bs.length ((Lib.byteCells bs))::T):=hM0;refine wof Tryz.func195 Tryz.ntmps195 fun Q hret hnorm hP a A=>?_;refine wsk fun _ ax=>wsr fun _ ay=>sdm A λA=>?_;refine sdn A λA=>?_;refine sdf A 2 TwG_fld_182_1 λA=>?_;refine sdl A M TwG_is1_4 0 λA=>?_;refine qa (ay _ _ ?_);refine wp_cond_split (t:=pl) (A.ev rfl) (fun ag=>?_) (fun ag=>?_)
 ·refine wsr fun K4 az=>sdm A λA=>?_;refine sdn A λA=>?_;refine sdf A 0 TwG_fld_182_0 λA=>?_;refine sdm A λA=>?_;refine sct A ec (kb hp (toW (X:=[]) M) hT (r:=((n:Nat):Int)) (by omega) (by omega) (by first|omega|(simp only[fv,fw,fx]; omega)|(simp only[fv,fw,fx,ByteArray.size,gg,Array.size]; omega))) ?_;rintro _ _ ⟨z7,rfl,v5,bd⟩;replace M:=(zi (X:=[]) bd);refine⟨_,rfl,?_⟩;intro a A;refine qa (az _ _ (wp_ret (hret _ _ (jq (v:=.tuple #[]) A rfl .nil rfl ?_))));refine⟨rfl,v5,?_⟩;have ae:=M.sub (L':=_::_::T) (cC (cC (.refl _)));rw[show qad pl ((n:Nat):Int)=(Lib.encodeRune (((n:Nat):Int)))from xif ag];simpa only[f4,gh,gq,f8]using ae
 ·refine wp_skip (ax _ _ (wsr fun _ bf=>sdm A λA=>?_));refine sdn A λA=>?_;refine sdf A 0 TwG_fld_182_0 λA=>?_;refine sct A ec (zx hp (toW (X:=[]) M) hT (b:=35) (by first|omega|(simp only[fv,fw,fx]; omega)|(simp only[fv,fw,fx,ByteArray.size,gg,Array.size]; omega))) ?_;rintro _ _ ⟨rfl,_,ai⟩;replace M:=(zi (X:=[]) ai);refine⟨_,rfl,?_⟩;intro a A;refine qwr bf fun _ aj=>sdm A λA=>?_;refine sct A ec (C.nameOf_any ((n:Nat):Int) _) ?_;rintro _ _ ⟨rfl,hw15⟩;subst hw15;refine⟨_,rfl,?_⟩;intro a A;refine sda A λA=>?_;refine qa (aj _ _ (wp_block (wsr fun _ ah=>sdm A λA=>?_)));rcases tf (decide (C.nameL ((n:Nat):Int)=⟨#[]⟩))with aa|aa
  ·have aa':=f5 aa;refine sdo (v:=bV false) A (qb rfl rfl (fun w=>(kx gi w).trans (by rw[aa]<;>rfl))) λA=>?_;refine sda A λA=>?_;refine qcf ah A ?_;refine wsr fun _ af=>sdm A λA=>?_;rcases tf (C.blankB ((n:Nat):Int))with ab|ab
   ·refine sct A ec ((ab▸C.blank_any ((n:Nat):Int) _)) ?_;rintro _ _ ⟨rfl,hw21⟩;subst hw21;refine⟨_,rfl,?_⟩;intro a A;refine sdm A λA=>?_;iterate 2 refine sks A λA=>?_
    refine sdk (v:=bV true) A λA=>?_;refine sda A λA=>?_;refine qct af A ?_;refine wrl ?_;iterate 2 refine sdm A λA=>?_
    refine sct A ec (qlf (.inr rfl) (toW (X:=[]) M) hT (n:=n) (by omega) hz (by first|omega|(simp only[fv,fw,fx]; omega)|(simp only[fv,fw,fx,ByteArray.size,gg,Array.size]; omega))) ?_;rintro _ _ ⟨rfl,bg,ak⟩;replace M:=(zi (X:=[]) ak);refine⟨_,rfl,?_⟩;intro a A;refine qa (hnorm _ _ (jq (v:=.tuple #[]) A rfl .nil rfl ?_));refine⟨rfl,bg,?_⟩;have ae:=M.sub (L':=_::_::T) (cC (cC (.refl _)));rw[show qad pl ((n:Nat):Int)=([35])++(jw (((n:Nat):Int)))from zmh ag aa' (by rw[ab]; rfl)];simpa only[f4,gh,gq,f8]using ae
   ·refine sct A ec ((ab▸C.blank_any ((n:Nat):Int) _)) ?_;rintro _ _ ⟨rfl,hw27⟩;subst hw27;refine⟨_,rfl,?_⟩;intro a A;iterate 2 refine sdm A λA=>?_
    rcases tf (C.ctlB ((n:Nat):Int))with ac|ac
    ·refine sct A ec ((ac▸C.ctl_any ((n:Nat):Int) _)) ?_;rintro _ _ ⟨rfl,hw30⟩;subst hw30;refine⟨_,rfl,?_⟩;intro a A;refine sdk (v:=bV true) A λA=>?_;refine sda A λA=>?_;refine qct af A ?_;refine wrl ?_;iterate 2 refine sdm A λA=>?_
     refine sct A ec (qlf (.inr rfl) (toW (X:=[]) M) hT (n:=n) (by omega) hz (by first|omega|(simp only[fv,fw,fx]; omega)|(simp only[fv,fw,fx,ByteArray.size,gg,Array.size]; omega))) ?_;rintro _ _ ⟨rfl,bh,am⟩;replace M:=(zi (X:=[]) am);refine⟨_,rfl,?_⟩;intro a A;refine qa (hnorm _ _ (jq (v:=.tuple #[]) A rfl .nil rfl ?_));refine⟨rfl,bh,?_⟩;have ae:=M.sub (L':=_::_::T) (cC (cC (.refl _)));rw[show qad pl ((n:Nat):Int)=([35])++(jw (((n:Nat):Int)))from zmh ag aa' (by rw[ab,ac]; rfl)];simpa only[f4,gh,gq,f8]using ae
    ·refine sct A ec ((ac▸C.ctl_any ((n:Nat):Int) _)) ?_;rintro _ _ ⟨rfl,hw36⟩;subst hw36;refine⟨_,rfl,?_⟩;intro a A;refine sdk (v:=bV false) A λA=>?_;refine sda A λA=>?_;refine qcf af A ?_;refine wsr fun _ ap=>sdm A λA=>?_;refine sdn A λA=>?_;refine sdf A 0 TwG_fld_182_0 λA=>?_;refine sct A ec (zx (.inr rfl) (toW (X:=[]) M) hT (b:=92) (by first|omega|(simp only[fv,fw,fx]; omega)|(simp only[fv,fw,fx,ByteArray.size,gg,Array.size]; omega))) ?_;rintro _ _ ⟨rfl,_,aq⟩;replace M:=(zi (X:=[]) aq);refine⟨_,rfl,?_⟩;intro a A;refine qa (ap _ _ (wrl (sdm A λA=>?_)));refine sdn A λA=>?_;refine sdf A 0 TwG_fld_182_0 λA=>?_;refine sdm A λA=>?_;refine sct A ec (kb (.inr rfl) (toW (X:=[]) M) hT (r:=((n:Nat):Int)) (by omega) (by omega) (by first|omega|(simp only[fv,fw,fx]; omega)|(simp only[fv,fw,fx,ByteArray.size,gg,Array.size]; omega))) ?_;rintro _ _ ⟨z45,rfl,bi,ar⟩;replace M:=(zi (X:=[]) ar);refine⟨_,rfl,?_⟩;intro a A;refine qa (hnorm _ _ (jq (v:=.tuple #[]) A rfl .nil rfl ?_));refine⟨rfl,bi,?_⟩;have ae:=M.sub (L':=_::_::T) (cC (cC (.refl _)));rw[show qad pl ((n:Nat):Int)=([35])++(([92])++(Lib.encodeRune (((n:Nat):Int))))from jsi ag aa' (by rw[ab,ac]; rfl)]
     simpa only[f4,gh,gq,f8]using ae
  ·have aa':=fy aa;refine sdo (v:=bV true) A (qb rfl rfl (fun w=>(kx gi w).trans (by rw[aa]<;>rfl))) λA=>?_;refine sda A λA=>?_;refine qct ah A ?_;refine wsr fun _ au=>sdm A λA=>?_;refine sdn A λA=>?_;refine sdf A 0 TwG_fld_182_0 λA=>?_;refine sct A ec (zx (.inr rfl) (toW (X:=[]) M) hT (b:=92) (by first|omega|(simp only[fv,fw,fx]; omega)|(simp only[fv,fw,fx,ByteArray.size,gg,Array.size]; omega))) ?_;rintro _ _ ⟨rfl,_,av⟩;replace M:=(zi (X:=[]) av);refine⟨_,rfl,?_⟩;intro a A;refine qa (au _ _ (wrl (sdm A λA=>?_)));refine sdn A λA=>?_;refine sdf A 0 TwG_fld_182_0 λA=>?_;refine sdm A λA=>?_;refine sct A ec (jo (.inr rfl) (toW (X:=[]) M) (s:=C.nameL ((n:Nat):Int)) (by first|omega|(simp only[fv,fw,fx]; omega)|(simp only[fv,fw,fx,ByteArray.size,gg,Array.size]; omega))) ?_;rintro _ _ ⟨rfl,bj,aw⟩;replace M:=(zi (X:=[]) aw);refine⟨_,rfl,?_⟩;intro a A;refine qa (hnorm _ _ (jq (v:=.tuple #[]) A rfl .nil rfl ?_));refine⟨rfl,bj,?_⟩;have ae:=M.sub (L':=_::_::T) (cC (cC (.refl _)));rw[show qad pl ((n:Nat):Int)=([35])++(([92])++((C.nameL ((n:Nat):Int)).data.toList))from jsh ag aa'];simpa only[f4,gh,gq,f8]using ae
theorem xig{w0 w:World}{gw:Nat}{p v:Value}{pl:Bool}{bs:List UInt8}{T:List Ck}(hp:p=.pointer none∨p=(pA gw 0))(hM0:Mg w0 w (.obj gw (.cells #[p,v,bV pl] 182)::.row BY 1 v bs.length (Lib.byteCells bs)::T))(hT:QT T){n:Nat}(ho:C.OkR ((n:Nat):Int))(hz:C.Tz16 w0)(hroom:bs.length+64≤1000000000):Calls Tryz.prog 247 #[pA gw 0,.int .i32 ((n:Nat):Int)] w fun e w'=>e=.returned (.tuple #[])∧∃v',Mg w0 w' (.obj gw (.cells #[pA gw 0,v',bV pl] 182)::.row BY 1 v' (bs++(C.strC ((n:Nat):Int))).length (Lib.byteCells (bs++(C.strC ((n:Nat):Int))))::T):=by
 have hn:=kp ho;have _:=qfg hn;have _:=qfh ((n:Nat):Int);have _:=qne ((n:Nat):Int);have M:Mg w0 w (.obj gw (.cells #[p,v,bV pl] 182)::.row BY 1 (v) bs.length ((Lib.byteCells bs))::T):=hM0;refine wof Tryz.func247 Tryz.ntmps247 fun Q hret hnorm hP a A=>?_;refine wp_block (wsr fun _ bn=>sdm A λA=>?_);rcases tf (decide (7≤((n:Nat):Int)))with ar|ar
 ·have ar':=f5 ar;refine sdc A zt ar λA=>?_;iterate 2 refine sdm A λA=>?_
  rcases tf (decide (((n:Nat):Int)≤13))with au|au
  ·have au':=f5 au;refine sdc A xi au λA=>?_;refine sdk (v:=bV true) A λA=>?_;refine sda A λA=>?_;refine qct bn A ?_;refine wsr fun K4 dg=>sdm A λA=>?_;refine sdn A λA=>?_;refine sdf A 0 TwG_fld_182_0 λA=>?_;refine sct A ec (zx hp (toW (X:=[]) M) hT (b:=92) (by first|omega|(simp only[fv,fw,fx]; omega)|(simp only[fv,fw,fx,ByteArray.size,gg,Array.size]; omega))) ?_;rintro _ _ ⟨rfl,_,dh⟩;replace M:=(zi (X:=[]) dh);refine⟨_,rfl,?_⟩;intro a A;refine qa (dg _ _ (xg (S:=fun w1=>Mg w0 w1 ([])) (by kernel_rfl) ?_));replace M:=M.drew;refine atk A 0 rfl hP (M.sub (cN (cN ns))) (λ_ M=>zr rfl) λA=>?_;refine atk A 1 rfl hP (M.sub (cN (cN ns))) (λ_ M=>qef rfl) λA=>?_;refine atk (v:=pA gw 0) A 2 rfl hP (M.sub (cN (cN ns))) (λ_ M=>qp TwG_fld_182_0 rfl rfl) λA=>?_;refine atk A 3 rfl hP (M.sub (cN (cN ns))) (λ_ M=>zr rfl) λA=>?_;refine atk (v:=.int .i32 (((n-7:Nat):Int))) A 4 rfl hP (M.sub (cN (cN ns))) (λ_ M=>qb rfl rfl (ar_sub ((in_i32 (by omega) (by omega)).trans (by omega)))) λA=>?_;refine atk (v:=.int .u8 ((((abt (n-7)).toNat:Nat):Int))) A 5 rfl hP (M.sub (cN (cN ns))) (λ_ M=>zmg (m:=n-7) gi rfl rfl rfl (by omega)) λA=>?_;refine zn (by kernel_rfl) (jc A 6 rfl rfl rfl rfl ec (zx (.inr rfl) (toW (X:=[]) M) hT (b:=abt (n-7)) (by first|omega|(simp only[fv,fw,fx]; omega)|(simp only[fv,fw,fx,ByteArray.size,gg,Array.size]; omega))) ?_);rintro _ _ ⟨rfl,v9,bp⟩
   replace M:=(zi (X:=[]) bp);refine⟨_,rfl,(M.sub (cN (cN ns))),?_⟩;intro a A;refine jl (by kernel_rfl) ?_;refine hnorm _ _ (jq (v:=.tuple #[]) A rfl .nil rfl ?_);refine⟨rfl,v9,?_⟩;have aa:=M.sub (L':=_::_::T) (cC (cC (.refl _)));rw[show C.strC ((n:Nat):Int)=([92])++([abt (n-7)])from jsg (by omega) (by omega)];simpa only[f4,gh,gq,f8]using aa
  ·have au':=fy au;refine sdc A xi au λA=>?_;refine sdk (v:=bV false) A λA=>?_;refine sda A λA=>?_;refine qcf bn A ?_;refine wsr fun _ av=>sdm A λA=>?_;rcases tf ((((n:Nat):Int)==34))with ae|ae
   ·have ae':=gr ae;refine sdc A qe ae λA=>?_;refine sdm A λA=>?_;iterate 2 refine sks A λA=>?_
    refine sdk (v:=bV true) A λA=>?_;refine sda A λA=>?_;refine qct av A ?_;refine wsr fun _ bq=>sdm A λA=>?_;refine sdn A λA=>?_;refine sdf A 0 TwG_fld_182_0 λA=>?_;refine sct A ec (zx hp (toW (X:=[]) M) hT (b:=92) (by first|omega|(simp only[fv,fw,fx]; omega)|(simp only[fv,fw,fx,ByteArray.size,gg,Array.size]; omega))) ?_;rintro _ _ ⟨rfl,_,br⟩;replace M:=(zi (X:=[]) br);refine⟨_,rfl,?_⟩;intro a A;refine qa (bq _ _ (wrl (sdm A λA=>?_)));refine sdn A λA=>?_;refine sdf A 0 TwG_fld_182_0 λA=>?_;refine sdm A λA=>?_;refine sct A ec (kb (.inr rfl) (toW (X:=[]) M) hT (r:=((n:Nat):Int)) (by omega) (by omega) (by first|omega|(simp only[fv,fw,fx]; omega)|(simp only[fv,fw,fx,ByteArray.size,gg,Array.size]; omega))) ?_;rintro _ _ ⟨z22,rfl,di,bw⟩;replace M:=(zi (X:=[]) bw);refine⟨_,rfl,?_⟩;intro a A;refine qa (hnorm _ _ (jq (v:=.tuple #[]) A rfl .nil rfl ?_));refine⟨rfl,di,?_⟩;have aa:=M.sub (L':=_::_::T) (cC (cC (.refl _)));rw[show C.strC ((n:Nat):Int)=([92])++(Lib.encodeRune (((n:Nat):Int)))from qkh (by omega)];simpa only[f4,gh,gq,f8]using aa
   ·have ae':=f6 ae;refine sdc A qe ae λA=>?_;iterate 2 refine sdm A λA=>?_
    rcases tf ((((n:Nat):Int)==92))with af|af
    ·have af':=gr af;refine sdc A qe af λA=>?_;refine sdk (v:=bV true) A λA=>?_;refine sda A λA=>?_;refine qct av A ?_;refine wsr fun _ bz=>sdm A λA=>?_;refine sdn A λA=>?_;refine sdf A 0 TwG_fld_182_0 λA=>?_;refine sct A ec (zx hp (toW (X:=[]) M) hT (b:=92) (by first|omega|(simp only[fv,fw,fx]; omega)|(simp only[fv,fw,fx,ByteArray.size,gg,Array.size]; omega))) ?_;rintro _ _ ⟨rfl,_,cc⟩;replace M:=(zi (X:=[]) cc);refine⟨_,rfl,?_⟩;intro a A;refine qa (bz _ _ (wrl (sdm A λA=>?_)));refine sdn A λA=>?_;refine sdf A 0 TwG_fld_182_0 λA=>?_;refine sdm A λA=>?_;refine sct A ec (kb (.inr rfl) (toW (X:=[]) M) hT (r:=((n:Nat):Int)) (by omega) (by omega) (by first|omega|(simp only[fv,fw,fx]; omega)|(simp only[fv,fw,fx,ByteArray.size,gg,Array.size]; omega))) ?_;rintro _ _ ⟨z32,rfl,dj,cd⟩;replace M:=(zi (X:=[]) cd);refine⟨_,rfl,?_⟩;intro a A;refine qa (hnorm _ _ (jq (v:=.tuple #[]) A rfl .nil rfl ?_));refine⟨rfl,dj,?_⟩;have aa:=M.sub (L':=_::_::T) (cC (cC (.refl _)));rw[show C.strC ((n:Nat):Int)=([92])++(Lib.encodeRune (((n:Nat):Int)))from qkh (by omega)];simpa only[f4,gh,gq,f8]using aa
    ·have af':=f6 af;refine sdc A qe af λA=>?_;refine sdk (v:=bV false) A λA=>?_;refine sda A λA=>?_;refine qcf av A ?_;refine wsr fun _ ap=>sdm A λA=>?_;rcases tf (C.ctlB ((n:Nat):Int))with ak|ak
     ·refine sct A ec ((ak▸C.ctl_any ((n:Nat):Int) _)) ?_;rintro _ _ ⟨rfl,hw36⟩;subst hw36;refine⟨_,rfl,?_⟩;intro a A;refine sdm A λA=>?_;iterate 2 refine sks A λA=>?_
      refine sdk (v:=bV true) A λA=>?_;refine sdm A λA=>?_;iterate 2 refine sks A λA=>?_
      refine sdk (v:=bV true) A λA=>?_;refine sda A λA=>?_;refine qct ap A ?_;refine wsr fun _ ce=>?_;iterate 2 refine sdm A λA=>?_
      refine sct A ec (qlf hp (toW (X:=[]) M) hT (n:=n) (by omega) hz (by first|omega|(simp only[fv,fw,fx]; omega)|(simp only[fv,fw,fx,ByteArray.size,gg,Array.size]; omega))) ?_;rintro _ _ ⟨rfl,_,cg⟩;replace M:=(zi (X:=[]) cg);refine⟨_,rfl,?_⟩;intro a A;refine qa (ce _ _ (wrl (sdm A λA=>?_)));refine sdn A λA=>?_;refine sdf A 0 TwG_fld_182_0 λA=>?_;refine sct A ec (zx (.inr rfl) (toW (X:=[]) M) hT (b:=59) (by first|omega|(simp only[fv,fw,fx]; omega)|(simp only[fv,fw,fx,ByteArray.size,gg,Array.size]; omega))) ?_;rintro _ _ ⟨rfl,dk,ch⟩;replace M:=(zi (X:=[]) ch);refine⟨_,rfl,?_⟩;intro a A;refine qa (hnorm _ _ (jq (v:=.tuple #[]) A rfl .nil rfl ?_));refine⟨rfl,dk,?_⟩;have aa:=M.sub (L':=_::_::T) (cC (cC (.refl _)));rw[show C.strC ((n:Nat):Int)=(jw (((n:Nat):Int)))++([59])from kt (by omega) (by omega) (.inl ak)];simpa only[f4,gh,gq,f8]using aa
     ·refine sct A ec ((ak▸C.ctl_any ((n:Nat):Int) _)) ?_;rintro _ _ ⟨rfl,hw47⟩;subst hw47;refine⟨_,rfl,?_⟩;intro a A;iterate 2 refine sdm A λA=>?_
      rcases tf ((((n:Nat):Int)==8232))with ag|ag
      ·have ag':=gr ag;refine sdc A qe ag λA=>?_;refine sdk (v:=bV true) A λA=>?_;refine sdm A λA=>?_;iterate 2 refine sks A λA=>?_
       refine sdk (v:=bV true) A λA=>?_;refine sda A λA=>?_;refine qct ap A ?_;refine wsr fun _ ci=>?_;iterate 2 refine sdm A λA=>?_
       refine sct A ec (qlf hp (toW (X:=[]) M) hT (n:=n) (by omega) hz (by first|omega|(simp only[fv,fw,fx]; omega)|(simp only[fv,fw,fx,ByteArray.size,gg,Array.size]; omega))) ?_;rintro _ _ ⟨rfl,_,cj⟩;replace M:=(zi (X:=[]) cj);refine⟨_,rfl,?_⟩;intro a A;refine qa (ci _ _ (wrl (sdm A λA=>?_)));refine sdn A λA=>?_;refine sdf A 0 TwG_fld_182_0 λA=>?_;refine sct A ec (zx (.inr rfl) (toW (X:=[]) M) hT (b:=59) (by first|omega|(simp only[fv,fw,fx]; omega)|(simp only[fv,fw,fx,ByteArray.size,gg,Array.size]; omega))) ?_;rintro _ _ ⟨rfl,dn,ck⟩;replace M:=(zi (X:=[]) ck);refine⟨_,rfl,?_⟩;intro a A;refine qa (hnorm _ _ (jq (v:=.tuple #[]) A rfl .nil rfl ?_));refine⟨rfl,dn,?_⟩;have aa:=M.sub (L':=_::_::T) (cC (cC (.refl _)));rw[show C.strC ((n:Nat):Int)=(jw (((n:Nat):Int)))++([59])from kt (by omega) (by omega) (.inr (by omega))];simpa only[f4,gh,gq,f8]using aa
      ·have ag':=f6 ag;refine sdc A qe ag λA=>?_;refine sdk (v:=bV false) A λA=>?_;iterate 2 refine sdm A λA=>?_
       rcases tf ((((n:Nat):Int)==65279))with ah|ah
       ·have ah':=gr ah;refine sdc A qe ah λA=>?_;refine sdk (v:=bV true) A λA=>?_;refine sda A λA=>?_;refine qct ap A ?_;refine wsr fun _ cl=>?_;iterate 2 refine sdm A λA=>?_
        refine sct A ec (qlf hp (toW (X:=[]) M) hT (n:=n) (by omega) hz (by first|omega|(simp only[fv,fw,fx]; omega)|(simp only[fv,fw,fx,ByteArray.size,gg,Array.size]; omega))) ?_;rintro _ _ ⟨rfl,_,cm⟩;replace M:=(zi (X:=[]) cm);refine⟨_,rfl,?_⟩;intro a A;refine qa (cl _ _ (wrl (sdm A λA=>?_)));refine sdn A λA=>?_;refine sdf A 0 TwG_fld_182_0 λA=>?_;refine sct A ec (zx (.inr rfl) (toW (X:=[]) M) hT (b:=59) (by first|omega|(simp only[fv,fw,fx]; omega)|(simp only[fv,fw,fx,ByteArray.size,gg,Array.size]; omega))) ?_;rintro _ _ ⟨rfl,dq,cn⟩;replace M:=(zi (X:=[]) cn);refine⟨_,rfl,?_⟩;intro a A;refine qa (hnorm _ _ (jq (v:=.tuple #[]) A rfl .nil rfl ?_));refine⟨rfl,dq,?_⟩;have aa:=M.sub (L':=_::_::T) (cC (cC (.refl _)));rw[show C.strC ((n:Nat):Int)=(jw (((n:Nat):Int)))++([59])from kt (by omega) (by omega) (.inr (by omega))];simpa only[f4,gh,gq,f8]using aa
       ·have ah':=f6 ah;refine sdc A qe ah λA=>?_;refine sdk (v:=bV false) A λA=>?_;refine sda A λA=>?_;refine qcf ap A ?_;refine wrl (sdm A λA=>?_);refine sdn A λA=>?_;refine sdf A 0 TwG_fld_182_0 λA=>?_;refine sdm A λA=>?_;refine sct A ec (kb hp (toW (X:=[]) M) hT (r:=((n:Nat):Int)) (by omega) (by omega) (by first|omega|(simp only[fv,fw,fx]; omega)|(simp only[fv,fw,fx,ByteArray.size,gg,Array.size]; omega))) ?_;rintro _ _ ⟨z71,rfl,dr,co⟩;replace M:=(zi (X:=[]) co);refine⟨_,rfl,?_⟩;intro a A;refine qa (hnorm _ _ (jq (v:=.tuple #[]) A rfl .nil rfl ?_));refine⟨rfl,dr,?_⟩;have aa:=M.sub (L':=_::_::T) (cC (cC (.refl _)));rw[show C.strC ((n:Nat):Int)=(Lib.encodeRune (((n:Nat):Int)))from qnd (by omega) (by omega) (fun k=>by rcases k with k|k; rw[ak]at k; cases k; omega)];simpa only[f4,gh,gq,f8]using aa
 ·have ar':=fy ar;refine sdc A zt ar λA=>?_;refine sdm A λA=>?_;iterate 2 refine sks A λA=>?_
  refine sdk (v:=bV false) A λA=>?_;refine sda A λA=>?_;refine qcf bn A ?_;refine wsr fun _ aw=>sdm A λA=>?_;rcases tf ((((n:Nat):Int)==34))with ai|ai
  ·have ai':=gr ai;refine sdc A qe ai λA=>?_;refine sdm A λA=>?_;iterate 2 refine sks A λA=>?_
   refine sdk (v:=bV true) A λA=>?_;refine sda A λA=>?_;refine qct aw A ?_;refine wsr fun _ cp=>sdm A λA=>?_;refine sdn A λA=>?_;refine sdf A 0 TwG_fld_182_0 λA=>?_;refine sct A ec (zx hp (toW (X:=[]) M) hT (b:=92) (by first|omega|(simp only[fv,fw,fx]; omega)|(simp only[fv,fw,fx,ByteArray.size,gg,Array.size]; omega))) ?_;rintro _ _ ⟨rfl,_,cq⟩;replace M:=(zi (X:=[]) cq);refine⟨_,rfl,?_⟩;intro a A;refine qa (cp _ _ (wrl (sdm A λA=>?_)));refine sdn A λA=>?_;refine sdf A 0 TwG_fld_182_0 λA=>?_;refine sdm A λA=>?_;refine sct A ec (kb (.inr rfl) (toW (X:=[]) M) hT (r:=((n:Nat):Int)) (by omega) (by omega) (by first|omega|(simp only[fv,fw,fx]; omega)|(simp only[fv,fw,fx,ByteArray.size,gg,Array.size]; omega))) ?_;rintro _ _ ⟨z82,rfl,dt,cr⟩;replace M:=(zi (X:=[]) cr);refine⟨_,rfl,?_⟩;intro a A;refine qa (hnorm _ _ (jq (v:=.tuple #[]) A rfl .nil rfl ?_));refine⟨rfl,dt,?_⟩;have aa:=M.sub (L':=_::_::T) (cC (cC (.refl _)));rw[show C.strC ((n:Nat):Int)=([92])++(Lib.encodeRune (((n:Nat):Int)))from qkh (by omega)];simpa only[f4,gh,gq,f8]using aa
  ·have ai':=f6 ai;refine sdc A qe ai λA=>?_;iterate 2 refine sdm A λA=>?_
   rcases tf ((((n:Nat):Int)==92))with aj|aj
   ·have aj':=gr aj;refine sdc A qe aj λA=>?_;refine sdk (v:=bV true) A λA=>?_;refine sda A λA=>?_;refine qct aw A ?_;refine wsr fun _ cw=>sdm A λA=>?_;refine sdn A λA=>?_;refine sdf A 0 TwG_fld_182_0 λA=>?_;refine sct A ec (zx hp (toW (X:=[]) M) hT (b:=92) (by first|omega|(simp only[fv,fw,fx]; omega)|(simp only[fv,fw,fx,ByteArray.size,gg,Array.size]; omega))) ?_;rintro _ _ ⟨rfl,_,cx⟩;replace M:=(zi (X:=[]) cx);refine⟨_,rfl,?_⟩;intro a A;refine qa (cw _ _ (wrl (sdm A λA=>?_)));refine sdn A λA=>?_;refine sdf A 0 TwG_fld_182_0 λA=>?_;refine sdm A λA=>?_;refine sct A ec (kb (.inr rfl) (toW (X:=[]) M) hT (r:=((n:Nat):Int)) (by omega) (by omega) (by first|omega|(simp only[fv,fw,fx]; omega)|(simp only[fv,fw,fx,ByteArray.size,gg,Array.size]; omega))) ?_;rintro _ _ ⟨z92,rfl,du,cy⟩;replace M:=(zi (X:=[]) cy);refine⟨_,rfl,?_⟩;intro a A;refine qa (hnorm _ _ (jq (v:=.tuple #[]) A rfl .nil rfl ?_));refine⟨rfl,du,?_⟩;have aa:=M.sub (L':=_::_::T) (cC (cC (.refl _)));rw[show C.strC ((n:Nat):Int)=([92])++(Lib.encodeRune (((n:Nat):Int)))from qkh (by omega)];simpa only[f4,gh,gq,f8]using aa
   ·have aj':=f6 aj;refine sdc A qe aj λA=>?_;refine sdk (v:=bV false) A λA=>?_;refine sda A λA=>?_;refine qcf aw A ?_;refine wsr fun _ aq=>sdm A λA=>?_;rcases tf (C.ctlB ((n:Nat):Int))with am|am
    ·refine sct A ec ((am▸C.ctl_any ((n:Nat):Int) _)) ?_;rintro _ _ ⟨rfl,hw96⟩;subst hw96;refine⟨_,rfl,?_⟩;intro a A;refine sdm A λA=>?_;iterate 2 refine sks A λA=>?_
     refine sdk (v:=bV true) A λA=>?_;refine sdm A λA=>?_;iterate 2 refine sks A λA=>?_
     refine sdk (v:=bV true) A λA=>?_;refine sda A λA=>?_;refine qct aq A ?_;refine wsr fun _ cz=>?_;iterate 2 refine sdm A λA=>?_
     refine sct A ec (qlf hp (toW (X:=[]) M) hT (n:=n) (by omega) hz (by first|omega|(simp only[fv,fw,fx]; omega)|(simp only[fv,fw,fx,ByteArray.size,gg,Array.size]; omega))) ?_;rintro _ _ ⟨rfl,_,ax⟩;replace M:=(zi (X:=[]) ax);refine⟨_,rfl,?_⟩;intro a A;refine qa (cz _ _ (wrl (sdm A λA=>?_)));refine sdn A λA=>?_;refine sdf A 0 TwG_fld_182_0 λA=>?_;refine sct A ec (zx (.inr rfl) (toW (X:=[]) M) hT (b:=59) (by first|omega|(simp only[fv,fw,fx]; omega)|(simp only[fv,fw,fx,ByteArray.size,gg,Array.size]; omega))) ?_;rintro _ _ ⟨rfl,db,ay⟩;replace M:=(zi (X:=[]) ay);refine⟨_,rfl,?_⟩;intro a A;refine qa (hnorm _ _ (jq (v:=.tuple #[]) A rfl .nil rfl ?_));refine⟨rfl,db,?_⟩;have aa:=M.sub (L':=_::_::T) (cC (cC (.refl _)));rw[show C.strC ((n:Nat):Int)=(jw (((n:Nat):Int)))++([59])from kt (by omega) (by omega) (.inl am)];simpa only[f4,gh,gq,f8]using aa
    ·refine sct A ec ((am▸C.ctl_any ((n:Nat):Int) _)) ?_;rintro _ _ ⟨rfl,hw107⟩;subst hw107;refine⟨_,rfl,?_⟩;intro a A;iterate 2 refine sdm A λA=>?_
     rcases tf ((((n:Nat):Int)==8232))with ab|ab
     ·have ab':=gr ab;refine sdc A qe ab λA=>?_;refine sdk (v:=bV true) A λA=>?_;refine sdm A λA=>?_;iterate 2 refine sks A λA=>?_
      refine sdk (v:=bV true) A λA=>?_;refine sda A λA=>?_;refine qct aq A ?_;refine wsr fun _ az=>?_;iterate 2 refine sdm A λA=>?_
      refine sct A ec (qlf hp (toW (X:=[]) M) hT (n:=n) (by omega) hz (by first|omega|(simp only[fv,fw,fx]; omega)|(simp only[fv,fw,fx,ByteArray.size,gg,Array.size]; omega))) ?_;rintro _ _ ⟨rfl,_,bd⟩;replace M:=(zi (X:=[]) bd);refine⟨_,rfl,?_⟩;intro a A;refine qa (az _ _ (wrl (sdm A λA=>?_)));refine sdn A λA=>?_;refine sdf A 0 TwG_fld_182_0 λA=>?_;refine sct A ec (zx (.inr rfl) (toW (X:=[]) M) hT (b:=59) (by first|omega|(simp only[fv,fw,fx]; omega)|(simp only[fv,fw,fx,ByteArray.size,gg,Array.size]; omega))) ?_;rintro _ _ ⟨rfl,dd,bf⟩;replace M:=(zi (X:=[]) bf);refine⟨_,rfl,?_⟩;intro a A;refine qa (hnorm _ _ (jq (v:=.tuple #[]) A rfl .nil rfl ?_));refine⟨rfl,dd,?_⟩;have aa:=M.sub (L':=_::_::T) (cC (cC (.refl _)));rw[show C.strC ((n:Nat):Int)=(jw (((n:Nat):Int)))++([59])from kt (by omega) (by omega) (.inr (by omega))];simpa only[f4,gh,gq,f8]using aa
     ·have ab':=f6 ab;refine sdc A qe ab λA=>?_;refine sdk (v:=bV false) A λA=>?_;iterate 2 refine sdm A λA=>?_
      rcases tf ((((n:Nat):Int)==65279))with ac|ac
      ·have ac':=gr ac;refine sdc A qe ac λA=>?_;refine sdk (v:=bV true) A λA=>?_;refine sda A λA=>?_;refine qct aq A ?_;refine wsr fun _ bg=>?_;iterate 2 refine sdm A λA=>?_
       refine sct A ec (qlf hp (toW (X:=[]) M) hT (n:=n) (by omega) hz (by first|omega|(simp only[fv,fw,fx]; omega)|(simp only[fv,fw,fx,ByteArray.size,gg,Array.size]; omega))) ?_;rintro _ _ ⟨rfl,_,bh⟩;replace M:=(zi (X:=[]) bh);refine⟨_,rfl,?_⟩;intro a A;refine qa (bg _ _ (wrl (sdm A λA=>?_)));refine sdn A λA=>?_;refine sdf A 0 TwG_fld_182_0 λA=>?_;refine sct A ec (zx (.inr rfl) (toW (X:=[]) M) hT (b:=59) (by first|omega|(simp only[fv,fw,fx]; omega)|(simp only[fv,fw,fx,ByteArray.size,gg,Array.size]; omega))) ?_;rintro _ _ ⟨rfl,de,bi⟩;replace M:=(zi (X:=[]) bi);refine⟨_,rfl,?_⟩;intro a A;refine qa (hnorm _ _ (jq (v:=.tuple #[]) A rfl .nil rfl ?_));refine⟨rfl,de,?_⟩;have aa:=M.sub (L':=_::_::T) (cC (cC (.refl _)));rw[show C.strC ((n:Nat):Int)=(jw (((n:Nat):Int)))++([59])from kt (by omega) (by omega) (.inr (by omega))];simpa only[f4,gh,gq,f8]using aa
      ·have ac':=f6 ac;refine sdc A qe ac λA=>?_;refine sdk (v:=bV false) A λA=>?_;refine sda A λA=>?_;refine qcf aq A ?_;refine wrl (sdm A λA=>?_);refine sdn A λA=>?_;refine sdf A 0 TwG_fld_182_0 λA=>?_;refine sdm A λA=>?_;refine sct A ec (kb hp (toW (X:=[]) M) hT (r:=((n:Nat):Int)) (by omega) (by omega) (by first|omega|(simp only[fv,fw,fx]; omega)|(simp only[fv,fw,fx,ByteArray.size,gg,Array.size]; omega))) ?_;rintro _ _ ⟨z131,rfl,df,bj⟩;replace M:=(zi (X:=[]) bj);refine⟨_,rfl,?_⟩;intro a A;refine qa (hnorm _ _ (jq (v:=.tuple #[]) A rfl .nil rfl ?_));refine⟨rfl,df,?_⟩;have aa:=M.sub (L':=_::_::T) (cC (cC (.refl _)));rw[show C.strC ((n:Nat):Int)=(Lib.encodeRune (((n:Nat):Int)))from qnd (by omega) (by omega) (fun k=>by rcases k with k|k; rw[am]at k; cases k; omega)];simpa only[f4,gh,gq,f8]using aa
end Go.Proofs.YtmnlfahgklnpeaaGreatDoor.G
namespace Go.Proofs
open Go.Shelf
def Tryz.lays99_ren: Go.Shelf.Ren:=⟨fun|99=>248|206=>283|n=>n,fun|9=>9|4=>4|3=>3|n=>n,fun|n=>n⟩
theorem Tryz.lays99: Go.Proofs.Lays.n99 Tryz.prog Tryz.lays99_ren:={
  mixed:=by kernel_rfl
  f99:=Tryz.func248.trans (congrArg some (by kernel_rfl))
  f206:=Tryz.func283.trans (congrArg some (by kernel_rfl))
  t3:=Tryz.underlying3
  a3:=Tryz.isAgg3
  z3:=Tryz.sizeOf3
  v3:=Tryz.zeroValue3
  t4:=Tryz.underlying4
  a4:=Tryz.isAgg4
  z4:=Tryz.sizeOf4
  v4:=Tryz.zeroValue4
  t9:=Tryz.underlying9
  a9:=Tryz.isAgg9
  z9:=Tryz.sizeOf9
  v9:=Tryz.zeroValue9 }
open Go.RowKit Go.Lib in
theorem Tryz.strings_HasPrefix(s p:ByteArray)(w:World):
    Calls Tryz.prog 248 #[.string s,.string p] w fun e w'=>e=.returned (.bool (Lib.hasPrefix s.data.toList p.data.toList))∧w'=w:=Any.strings_HasPrefix Tryz.lays99 s p w
end Go.Proofs
namespace Go.Proofs.YtmnlfahgklnpeaaGreatDoor.G
open Go.RowKit Go.Lib

theorem ve{s:ByteArray}{p r q:Nat}(e:Utf8.decode s p=(r,q)):C.OkR ((r:Nat):Int):=by
  have hd:=decodeL_drop s p;rw[e]at hd;have:=qge (s.data.toList.drop p);rw[hd]at this;simp only at this;unfold C.OkR;omega
theorem zta{fl:Bool}{r:Int}(h:(C.firstB r||(!fl&&C.restB r))=true):inS fl r=encodeRune r:=gj h
theorem ztb{fl:Bool}{r:Int}(h:(C.firstB r||(!fl&&C.restB r))=false):inS fl r=jw r++[59]:=f7 (by rw[h]; decide)
theorem qjf(fl:Bool)(r:Int)(rs:List Int):inL fl (r::rs)=inS fl r++inL false rs:=rfl
theorem xce(fl:Bool):inL fl []=[]:=rfl
theorem ud(fl:Bool){n:Nat}(h:n≤1114111):(inS fl ((n:Nat):Int)).length≤9:=by
  unfold inS;have:=qfg h;have:=qbi ((n:Nat):Int)
  split
  · omega
  · rw[fv]; simp only[fw,fx]; omega
theorem zmi{n:Nat}(h:n≤1114111):(C.strC ((n:Nat):Int)).length≤9:=C.strC_len _ (by omega) (by omega)
theorem qpi: ∀k:Fin 256,(C.decD k.val).length≤3:=by decide +kernel
theorem qvj{f:Bool}{l:List UInt8}{i:Nat}(hi:i<l.length):quh f (l.drop i)=(if f=true then[]else[32])++C.decD (l.getD i 0).toNat++quh false (l.drop (i+1)):=by
  rw[List.drop_eq_getElem_cons hi,show l.getD i 0=l[i]from by simp[List.getD,List.getElem?_eq_getElem hi]];rfl
theorem ztc{f:Bool}{l:List UInt8}{i:Nat}(hi:¬i<l.length):quh f (l.drop i)=[]:=by rw[i7 (by omega)]; rfl
theorem zbf{w:World}{s t:ByteArray}{b:Bool}(h:hasPrefix s.data.toList t.data.toList=b):Calls Tryz.prog 248 #[.string s,.string t] w (RB w (.bool b)):=h▸(Tryz.strings_HasPrefix s t w).mono fun e w' ⟨h,e2⟩=>⟨h,e2▸Below.refl _ _⟩
section
variable {pl:Bool} {s:ByteArray}
theorem qnf(h:pl=true∨s=⟨#[43]⟩∨s=⟨#[45]⟩∨s=⟨#[46,46,46]⟩):qaj pl s=s.data.toList:=gj h
theorem jsj(h:¬(pl=true∨s=⟨#[43]⟩∨s=⟨#[45]⟩∨s=⟨#[46,46,46]⟩))(h1:s=⟨#[]⟩):qaj pl s=[124,124]:=by unfold qaj; rw[f7 h,gj h1]
theorem jta(h:¬(pl=true∨s=⟨#[43]⟩∨s=⟨#[45]⟩∨s=⟨#[46,46,46]⟩))(h1:s≠⟨#[]⟩)(h2:hasPrefix s.data.toList [45,62]=true):qaj pl s=[45,62]++inL false (ze (s.data.toList.drop 2)):=by unfold qaj; rw[f7 h,f7 h1,gj h2]
theorem jtb(h:¬(pl=true∨s=⟨#[43]⟩∨s=⟨#[45]⟩∨s=⟨#[46,46,46]⟩))(h1:s≠⟨#[]⟩)(h2:hasPrefix s.data.toList [45,62]=false):qaj pl s=inL true (ze s.data.toList):=by unfold qaj; rw[f7 h,f7 h1,f7 (by rw[h2]; decide)]
theorem jab(h:hasPrefix s.data.toList [45,62]=true):2≤s.size:=by
  have:=zvd h;rw[zm]at this;exact this
end
theorem jje(s:ByteArray)(p:Nat):ze (s.extract p s.size).data.toList=ze (s.data.toList.drop p):=by rw[qid]
theorem xih(s:ByteArray)(p:Nat):(s.extract p s.size).size=s.size-p:=by
  rw[←zm,qid,il,zm]
theorem xcf{s:ByteArray}(h:s≠⟨#[]⟩):s.size≠0:=fun k=>h (by
  cases s with
  | mk a => congr 1; exact Array.eq_empty_of_size_eq_zero k)
open Go.RowKit
theorem TwH_is1_4: Is1 Tryz.prog 4:=⟨⟨_,lf,rfl⟩,by kernel_rfl⟩
theorem TwH_is1_5: Is1 Tryz.prog 5:=⟨⟨_,ir,rfl⟩,by kernel_rfl⟩
theorem TwH_fld_182_0: FieldAt Tryz.prog 182 0 0:=⟨_,_,lh,rfl,rfl,by kernel_rfl⟩
theorem TwH_fld_182_1: FieldAt Tryz.prog 182 1 2:=⟨_,_,lh,rfl,rfl,by kernel_rfl⟩
theorem xlb{w0 w:World}{gw:Nat}{p v:Value}{pl:Bool}{bs:List UInt8}{T:List Ck}(hp:p=.pointer none∨p=(pA gw 0))(hM0:Mg w0 w (.obj gw (.cells #[p,v,bV pl] 182)::.row BY 1 v bs.length (Lib.byteCells bs)::T))(hT:QT T){s:ByteArray}(hs:s.size≤2000000)(hz:C.Tz16 w0)(hroom:bs.length+(64*s.size+64)≤1000000000):Calls Tryz.prog 196 #[pA gw 0,.string s] w fun e w'=>e=.returned (.tuple #[])∧∃v',Mg w0 w' (.obj gw (.cells #[pA gw 0,v',bV pl] 182)::.row BY 1 v' (bs++(qlc pl s)).length (Lib.byteCells (bs++(qlc pl s)))::T):=by
 have hsl:=zm s;have M:Mg w0 w (.obj gw (.cells #[p,v,bV pl] 182)::.row BY 1 (v) bs.length ((Lib.byteCells bs))::T):=hM0;refine wof Tryz.func196 Tryz.ntmps196 fun Q hret hnorm hP a A=>?_;refine wsk fun _ ax=>wsr fun _ ay=>sdm A λA=>?_;refine sdn A λA=>?_;refine sdf A 2 TwH_fld_182_1 λA=>?_;refine sdl A M TwH_is1_4 0 λA=>?_;refine qa (ay _ _ ?_);refine wp_cond_split (t:=pl) (A.ev rfl) (fun ag=>?_) (fun ag=>?_)
 ·refine wsr fun K4 az=>sdm A λA=>?_;refine sdn A λA=>?_;refine sdf A 0 TwH_fld_182_0 λA=>?_;refine sdm A λA=>?_;refine sct A ec (jo hp (toW (X:=[]) M) (s:=s) (by first|omega|(simp only[fv,fw,fx]; omega)|(simp only[fv,fw,fx,ByteArray.size,gg,Array.size]; omega))) ?_;rintro _ _ ⟨rfl,v5,bd⟩;replace M:=(zi (X:=[]) bd);refine⟨_,rfl,?_⟩;intro a A;refine qa (az _ _ (wp_ret (hret _ _ (jq (v:=.tuple #[]) A rfl .nil rfl ?_))));refine⟨rfl,v5,?_⟩;have ah:=M.sub (L':=_::_::T) (cC (cC (.refl _)));rw[show qlc pl s=s.data.toList from(show qlc pl s=_ from gj ag)];simpa only[f4,gh,gq,f8]using ah
 ·refine wp_skip (ax _ _ (wsr fun _ bf=>sdm A λA=>?_));refine sdn A λA=>?_;refine sdf A 0 TwH_fld_182_0 λA=>?_;refine sct A ec (zx hp (toW (X:=[]) M) hT (b:=34) (by first|omega|(simp only[fv,fw,fx]; omega)|(simp only[fv,fw,fx,ByteArray.size,gg,Array.size]; omega))) ?_;rintro _ _ ⟨rfl,ai,aj⟩;replace M:=(zi (X:=[]) aj);refine⟨_,rfl,?_⟩;intro a A;refine qwk bf fun _ ak=>wsr fun _ am=>sdm A λA=>?_;refine qui A M rfl gi rfl rfl rfl rfl ?_;intro g16 bg M a A;refine qa (am _ _ (wp_block ?_));replace M:Mg w0 bg (.obj g16 (.stringIter s 0)::.obj gw (.cells #[pA gw 0,ai,bV pl] 182)::.row BY 1 (ai) ((((bs++[34])++[])).length) ((Lib.byteCells (((bs++[34])++[]))))::T):=by
   have h9:=M;simp only[f4,gh,f8]at h9 ⊢;exact h9
  refine zg (fun m_ a w1=>∃(p_:Nat) (acc:List UInt8) (vo:Value),m_=1+(s.size-p_)∧(acc++(qdd s p_).flatMap C.strC=(ze s.data.toList).flatMap C.strC∧acc.length≤9*p_∧p_≤s.size)∧Sl a 31 [(0,pA gw 0),(1,.string s),(6,pA gw 0),(7,pA gw 0),(8,pA gw 2),(9,bV pl),(15,pA gw 0),(16,pA gw 0),(17,pA gw 0),(18,.nilIface),(19,.string s),(20,pA g16 0)]∧Mg w0 w1 (.obj g16 (.stringIter s p_)::.obj gw (.cells #[pA gw 0,vo,bV pl] 182)::.row BY 1 (vo) (((bs++[34])++acc).length) ((Lib.byteCells ((bs++[34])++acc)))::T)) _ ⟨0,[],ai,rfl,⟨by rw[f8,qea],ii _,ii _⟩,A.keep _ (by repeat' constructor),M⟩ ?_;clear M A;rintro m_ a _ ⟨p_,acc,vo,rfl,ac,A,M⟩ _ ap;obtain⟨ae,ha9,hp9⟩:=ac;refine wsr fun _ af=>?_;by_cases aa:p_<s.size
  ·obtain⟨ab,cq25,he26⟩:∃r q,Utf8.decode s p_=(r,q):=⟨_,_,rfl⟩;refine zie (L':=(.obj g16 (.stringIter s (p_+cq25))::.obj gw (.cells #[pA gw 0,vo,bV pl] 182)::.row BY 1 (vo) (((bs++[34])++acc).length) ((Lib.byteCells ((bs++[34])++acc)))::T)) A M rfl rfl 0 rfl aa rfl rfl rfl he26 rfl ?_;intro _ M a A;refine sde A λA=>?_;refine qa (af _ _ (wsk fun _ aq=>wp_cond_true (A.ev rfl) ?_));refine wp_skip (aq _ _ (wp_block (wsr fun _ ar=>sde A λA=>?_)));refine sda A λA=>?_;refine qa (ar _ _ (wrl ?_));iterate 2 refine sdm A λA=>?_
   refine sct A ec (xig (.inr rfl) (toW (X:=[.obj g16 (.stringIter s (p_+cq25))]) M) (QT.it hT) (n:=ab) (ve he26) hz (by first|omega|(simp only[fv,fw,fx]; omega)|(simp only[fv,fw,fx,ByteArray.size,gg,Array.size]; omega))) ?_;rintro _ bh ⟨rfl,au,av⟩;replace M:=(zi (X:=[.obj g16 (.stringIter s (p_+cq25))]) av);refine⟨_,rfl,?_⟩;intro a A;refine qa ?_;replace M:Mg w0 bh (.obj g16 (.stringIter s (p_+cq25))::.obj gw (.cells #[pA gw 0,au,bV pl] 182)::.row BY 1 (au) ((((bs++[34])++(acc++C.strC ((ab:Nat):Int)))).length) ((Lib.byteCells (((bs++[34])++(acc++C.strC ((ab:Nat):Int))))))::T):=by
    have h9:=M;simp only[f4,gh,f8]at h9 ⊢;exact h9
   have _:=(qdg aa he26).2;have hs9:=zmi (kp (ve he26));refine ap _ _ _ (by omega) ⟨p_+cq25,acc++C.strC ((ab:Nat):Int),au,rfl,⟨by rw[←ae,jd aa he26,ij,f4],by rw[fv]; omega,by omega⟩,A.keep _ (by repeat' constructor),M⟩
  ·refine zif A M rfl rfl 0 rfl aa rfl rfl rfl λa A=>?_;refine sde A λA=>?_;refine qa (af _ _ (wsk fun _ _=>wp_cond_false (A.ev rfl) ?_));refine wp_exit (ak _ _ (wrl (sdm A λA=>?_)));refine sdn A λA=>?_;refine sdf A 0 TwH_fld_182_0 λA=>?_;refine sct A ec (zx (.inr rfl) (toW (X:=[.obj g16 (.stringIter s p_)]) M) (QT.it hT) (b:=34) (by first|omega|(simp only[fv,fw,fx]; omega)|(simp only[fv,fw,fx,ByteArray.size,gg,Array.size]; omega))) ?_;rintro _ _ ⟨rfl,bi,aw⟩;replace M:=(zi (X:=[.obj g16 (.stringIter s p_)]) aw);refine⟨_,rfl,?_⟩;intro a A;refine qa (hnorm _ _ (jq (v:=.tuple #[]) A rfl .nil rfl ?_));refine⟨rfl,bi,?_⟩;have ah:=M.sub (L':=_::_::T) (cN (cC (cC (.refl _))));rw[show qlc pl s=([34])++(acc++([34]))from(by unfold qlc; rw[f7 (by rw[ag]; decide),←ae,qeb aa,List.flatMap_nil,gh,f4])];simpa only[f4,gh,gq,f8]using ah
theorem jtc{w0 w:World}{gw:Nat}{p v:Value}{pl:Bool}{bs:List UInt8}{T:List Ck}(hp:p=.pointer none∨p=(pA gw 0))(hM0:Mg w0 w (.obj gw (.cells #[p,v,bV pl] 182)::.row BY 1 v bs.length (Lib.byteCells bs)::T))(hT:QT T){s:ByteArray}{fi:Bool}(hne:s.size≠0∨p=(pA gw 0))(hs:s.size≤2000000)(hz:C.Tz16 w0)(hroom:bs.length+(64*s.size+64)≤1000000000):Calls Tryz.prog 249 #[pA gw 0,.string s,bV fi] w fun e w'=>e=.returned (.tuple #[])∧∃v',Mg w0 w' (.obj gw (.cells #[pA gw 0,v',bV pl] 182)::.row BY 1 v' (bs++(inL fi (ze s.data.toList))).length (Lib.byteCells (bs++(inL fi (ze s.data.toList))))::T):=by
 have M:Mg w0 w (.obj gw (.cells #[p,v,bV pl] 182)::.row BY 1 (v) bs.length ((Lib.byteCells bs))::T):=hM0;refine wof Tryz.func249 Tryz.ntmps249 fun Q hret hnorm hP a A=>?_;refine wsr fun _ bn=>sdm A λA=>?_;refine qui A M rfl gi rfl rfl rfl rfl ?_;intro g2 w3 M a A;refine qa (bn _ _ (wp_block ?_));replace M:Mg w0 w3 (.obj g2 (.stringIter s 0)::.obj gw (.cells #[p,v,bV pl] 182)::.row BY 1 (v) (((bs++[])).length) ((Lib.byteCells ((bs++[]))))::T):=by
  have h9:=M;simp only[f4,gh,f8]at h9 ⊢;exact h9
 refine zg (fun m_ a w1=>∃(p_:Nat) (fl:Bool) (acc:List UInt8) (vo:Value) (po:Value),m_=1+(s.size-p_)∧((po=(pA gw 0)∨(p_=0∧po=p))∧acc++inL fl (qdd s p_)=inL fi (ze s.data.toList)∧acc.length≤9*p_∧p_≤s.size)∧Sl a 35 [(0,pA gw 0),(1,.string s),(2,bV fl),(8,.string s),(9,pA g2 0)]∧Mg w0 w1 (.obj g2 (.stringIter s p_)::.obj gw (.cells #[po,vo,bV pl] 182)::.row BY 1 (vo) ((bs++acc).length) ((Lib.byteCells (bs++acc)))::T)) _ ⟨0,fi,[],v,p,rfl,⟨.inr ⟨rfl,rfl⟩,by rw[f8,qea],ii _,ii _⟩,A.keep _ ⟨rfl,rfl,rfl,rfl,rfl,trivial⟩,M⟩ ?_;clear M A;rintro m_ a _ ⟨p_,fl,acc,vo,po,rfl,aj,A,M⟩ _ am;obtain⟨hpq,ac,ha9,hp9⟩:=aj;have hpo:po=.pointer none∨po=(pA gw 0):=by
  rcases hpq with h|⟨_,h⟩
  ·exact .inr h
  ·rw[h]; exact hp
 refine wsr fun _ bj=>?_;by_cases ah:p_<s.size
 ·obtain⟨aa,cq11,he12⟩:∃r q,Utf8.decode s p_=(r,q):=⟨_,_,rfl⟩;refine zie (L':=(.obj g2 (.stringIter s (p_+cq11))::.obj gw (.cells #[po,vo,bV pl] 182)::.row BY 1 (vo) ((bs++acc).length) ((Lib.byteCells (bs++acc)))::T)) A M rfl rfl 0 rfl ah rfl rfl rfl he12 rfl ?_;intro _ M a A;refine sde A λA=>?_;refine qa (bj _ _ (wsk fun _ ap=>wp_cond_true (A.ev rfl) ?_));refine wp_skip (ap _ _ (wp_block (wsk fun _ aq=>?_)));have _:=(qdg ah he12).2;have ak:=kp (ve he12);have hcw8:=qfg ak;have hen4:=qbi ((aa:Nat):Int);refine wrl (sde A λA=>?_);refine sda A λA=>?_;refine qwk aq fun _ af=>wsr fun _ ag=>sdm A λA=>?_;rcases tf (C.firstB (((aa:Nat):Int)))with ab|ab
  ·refine gcl A M ec ((ab▸C.isFirst_any (((aa:Nat):Int)) (ve he12) _)) fun _ _ M a A=>?_;refine sdm A λA=>?_;iterate 3 refine sks A λA=>?_
   iterate 2 refine qbh A rfl rfl rfl λa A=>?_
   refine sks A λA=>?_;refine sdk (v:=bV true) A λA=>?_;refine qct ag A ?_;refine wrl (sdm A λA=>?_);refine sdn A λA=>?_;refine sdf A 0 TwH_fld_182_0 λA=>?_;refine sdm A λA=>?_;refine sct A ec (kb hpo (toW (X:=[.obj g2 (.stringIter s (p_+cq11))]) M) (QT.it hT) (r:=((aa:Nat):Int)) (by omega) (by omega) (by first|omega|(simp only[fv,fw,fx]; omega)|(simp only[fv,fw,fx,ByteArray.size,gg,Array.size]; omega))) ?_;rintro _ bp ⟨z22,rfl,ar,au⟩;replace M:=(zi (X:=[.obj g2 (.stringIter s (p_+cq11))]) au);refine⟨_,rfl,?_⟩;intro a A;refine qa (af _ _ (wrl (sda A λA=>?_)));refine qa ?_;have ai:inS fl ((aa:Nat):Int)=Lib.encodeRune ((aa:Nat):Int):=zta (by rw[ab]; simp);replace M:Mg w0 bp (.obj g2 (.stringIter s (p_+cq11))::.obj gw (.cells #[pA gw 0,ar,bV pl] 182)::.row BY 1 (ar) (((bs++(acc++inS fl ((aa:Nat):Int)))).length) ((Lib.byteCells ((bs++(acc++inS fl ((aa:Nat):Int))))))::T):=by
    have h9:=M;rw[ai];simp only[f4]at h9 ⊢;exact h9
   have hs9:=ud fl ak;refine am _ _ _ (by omega) ⟨p_+cq11,false,acc++inS fl ((aa:Nat):Int),ar,pA gw 0,rfl,⟨.inl rfl,by rw[←ac,jd ah he12,qjf,f4],by rw[fv]; omega,by omega⟩,A.keep _ ⟨rfl,rfl,rfl,rfl,rfl,trivial⟩,M⟩
  ·refine gcl A M ec ((ab▸C.isFirst_any (((aa:Nat):Int)) (ve he12) _)) fun _ _ M a A=>?_;iterate 2 refine sdm A λA=>?_
   rcases fl with _|_
   ·refine sdu A λA=>?_;iterate 2 refine sdm A λA=>?_
    rcases tf (C.restB (((aa:Nat):Int)))with ae|ae
    ·refine gcl A M ec ((ae▸C.isRest_any (((aa:Nat):Int)) (ve he12) _)) fun _ _ M a A=>?_;iterate 2 refine sdk (v:=bV true) A λA=>?_
     refine qct ag A ?_;refine wrl (sdm A λA=>?_);refine sdn A λA=>?_;refine sdf A 0 TwH_fld_182_0 λA=>?_;refine sdm A λA=>?_;refine sct A ec (kb hpo (toW (X:=[.obj g2 (.stringIter s (p_+cq11))]) M) (QT.it hT) (r:=((aa:Nat):Int)) (by omega) (by omega) (by first|omega|(simp only[fv,fw,fx]; omega)|(simp only[fv,fw,fx,ByteArray.size,gg,Array.size]; omega))) ?_;rintro _ bq ⟨z31,rfl,av,aw⟩;replace M:=(zi (X:=[.obj g2 (.stringIter s (p_+cq11))]) aw);refine⟨_,rfl,?_⟩;intro a A;refine qa (af _ _ (wrl (sda A λA=>?_)));refine qa ?_;have ai:inS false ((aa:Nat):Int)=Lib.encodeRune ((aa:Nat):Int):=zta (by rw[ab,ae]; rfl);replace M:Mg w0 bq (.obj g2 (.stringIter s (p_+cq11))::.obj gw (.cells #[pA gw 0,av,bV pl] 182)::.row BY 1 (av) (((bs++(acc++inS false ((aa:Nat):Int)))).length) ((Lib.byteCells ((bs++(acc++inS false ((aa:Nat):Int))))))::T):=by
      have h9:=M;rw[ai];simp only[f4]at h9 ⊢;exact h9
     have hs9:=ud false ak;refine am _ _ _ (by omega) ⟨p_+cq11,false,acc++inS false ((aa:Nat):Int),av,pA gw 0,rfl,⟨.inl rfl,by rw[←ac,jd ah he12,qjf,f4],by rw[fv]; omega,by omega⟩,A.keep _ ⟨rfl,rfl,rfl,rfl,rfl,trivial⟩,M⟩
    ·refine gcl A M ec ((ae▸C.isRest_any (((aa:Nat):Int)) (ve he12) _)) fun _ _ M a A=>?_;iterate 2 refine sdk (v:=bV false) A λA=>?_
     refine qcf ag A ?_;refine wsr fun _ ax=>?_;iterate 2 refine sdm A λA=>?_
     refine sct A ec (qlf hpo (toW (X:=[.obj g2 (.stringIter s (p_+cq11))]) M) (QT.it hT) (n:=aa) (kp (ve he12)) hz (by first|omega|(simp only[fv,fw,fx]; omega)|(simp only[fv,fw,fx,ByteArray.size,gg,Array.size]; omega))) ?_;rintro _ _ ⟨rfl,_,ay⟩;replace M:=(zi (X:=[.obj g2 (.stringIter s (p_+cq11))]) ay);refine⟨_,rfl,?_⟩;intro a A;refine qa (ax _ _ (wrl (sdm A λA=>?_)));refine sdn A λA=>?_;refine sdf A 0 TwH_fld_182_0 λA=>?_;refine sct A ec (zx (.inr rfl) (toW (X:=[.obj g2 (.stringIter s (p_+cq11))]) M) (QT.it hT) (b:=59) (by first|omega|(simp only[fv,fw,fx]; omega)|(simp only[fv,fw,fx,ByteArray.size,gg,Array.size]; omega))) ?_;rintro _ br ⟨rfl,az,bd⟩;replace M:=(zi (X:=[.obj g2 (.stringIter s (p_+cq11))]) bd);refine⟨_,rfl,?_⟩;intro a A;refine qa (af _ _ (wrl (sda A λA=>?_)));refine qa ?_;have ai:inS false ((aa:Nat):Int)=jw ((aa:Nat):Int)++[59]:=ztb (by rw[ab,ae]; rfl);replace M:Mg w0 br (.obj g2 (.stringIter s (p_+cq11))::.obj gw (.cells #[pA gw 0,az,bV pl] 182)::.row BY 1 (az) (((bs++(acc++inS false ((aa:Nat):Int)))).length) ((Lib.byteCells ((bs++(acc++inS false ((aa:Nat):Int))))))::T):=by
      have h9:=M;rw[ai];simp only[f4]at h9 ⊢;exact h9
     have hs9:=ud false ak;refine am _ _ _ (by omega) ⟨p_+cq11,false,acc++inS false ((aa:Nat):Int),az,pA gw 0,rfl,⟨.inl rfl,by rw[←ac,jd ah he12,qjf,f4],by rw[fv]; omega,by omega⟩,A.keep _ ⟨rfl,rfl,rfl,rfl,rfl,trivial⟩,M⟩
   ·refine sdu A λA=>?_;refine sdm A λA=>?_;iterate 2 refine sks A λA=>?_
    iterate 2 refine sdk (v:=bV false) A λA=>?_
    refine qcf ag A ?_;refine wsr fun _ bf=>?_;iterate 2 refine sdm A λA=>?_
    refine sct A ec (qlf hpo (toW (X:=[.obj g2 (.stringIter s (p_+cq11))]) M) (QT.it hT) (n:=aa) (kp (ve he12)) hz (by first|omega|(simp only[fv,fw,fx]; omega)|(simp only[fv,fw,fx,ByteArray.size,gg,Array.size]; omega))) ?_;rintro _ _ ⟨rfl,_,bg⟩;replace M:=(zi (X:=[.obj g2 (.stringIter s (p_+cq11))]) bg);refine⟨_,rfl,?_⟩;intro a A;refine qa (bf _ _ (wrl (sdm A λA=>?_)));refine sdn A λA=>?_;refine sdf A 0 TwH_fld_182_0 λA=>?_;refine sct A ec (zx (.inr rfl) (toW (X:=[.obj g2 (.stringIter s (p_+cq11))]) M) (QT.it hT) (b:=59) (by first|omega|(simp only[fv,fw,fx]; omega)|(simp only[fv,fw,fx,ByteArray.size,gg,Array.size]; omega))) ?_;rintro _ bw ⟨rfl,bh,bi⟩;replace M:=(zi (X:=[.obj g2 (.stringIter s (p_+cq11))]) bi);refine⟨_,rfl,?_⟩;intro a A;refine qa (af _ _ (wrl (sda A λA=>?_)));refine qa ?_;have ai:inS true ((aa:Nat):Int)=jw ((aa:Nat):Int)++[59]:=ztb (by rw[ab]; rfl);replace M:Mg w0 bw (.obj g2 (.stringIter s (p_+cq11))::.obj gw (.cells #[pA gw 0,bh,bV pl] 182)::.row BY 1 (bh) (((bs++(acc++inS true ((aa:Nat):Int)))).length) ((Lib.byteCells ((bs++(acc++inS true ((aa:Nat):Int))))))::T):=by
     have h9:=M;rw[ai];simp only[f4]at h9 ⊢;exact h9
    have hs9:=ud true ak;refine am _ _ _ (by omega) ⟨p_+cq11,false,acc++inS true ((aa:Nat):Int),bh,pA gw 0,rfl,⟨.inl rfl,by rw[←ac,jd ah he12,qjf,f4],by rw[fv]; omega,by omega⟩,A.keep _ ⟨rfl,rfl,rfl,rfl,rfl,trivial⟩,M⟩
 ·refine zif A M rfl rfl 0 rfl ah rfl rfl rfl λa A=>?_;refine sde A λA=>?_;refine qa (bj _ _ (wsk fun _ _=>wp_cond_false (A.ev rfl) ?_));refine wp_exit (hnorm _ _ (jq (v:=.tuple #[]) A rfl .nil rfl ?_));have hpe:po=(pA gw 0):=by
   rcases hpq with h|⟨h0,h⟩
   ·exact h
   ·rcases hne with k|k
    ·omega
    ·rw[h,k]
  rw[hpe]at M;refine⟨rfl,vo,?_⟩;have bz:=M.sub (L':=_::_::T) (cN (cC (cC (.refl _))));rw[show inL fi (ze s.data.toList)=acc from(by rw[←ac,qeb ah,xce,gh])];simpa only[f4,gh,gq,f8]using bz
theorem xme{w0 w:World}{gw:Nat}{p v:Value}{pl:Bool}{bs:List UInt8}{T:List Ck}(hp:p=.pointer none∨p=(pA gw 0))(hM0:Mg w0 w (.obj gw (.cells #[p,v,bV pl] 182)::.row BY 1 v bs.length (Lib.byteCells bs)::T))(hT:QT T){s:ByteArray}(hs:s.size≤2000000)(hz:C.Tz16 w0)(hroom:bs.length+(64*s.size+64)≤1000000000):Calls Tryz.prog 197 #[pA gw 0,.string s] w fun e w'=>e=.returned (.tuple #[])∧∃v',Mg w0 w' (.obj gw (.cells #[pA gw 0,v',bV pl] 182)::.row BY 1 v' (bs++(qaj pl s)).length (Lib.byteCells (bs++(qaj pl s)))::T):=by
 have M:Mg w0 w (.obj gw (.cells #[p,v,bV pl] 182)::.row BY 1 (v) bs.length ((Lib.byteCells bs))::T):=hM0;refine wof Tryz.func197 Tryz.ntmps197 fun Q hret hnorm hP a A=>?_;refine wp_block (wsr fun _ ah=>sdm A λA=>?_);refine sdn A λA=>?_;refine sdf A 2 TwH_fld_182_1 λA=>?_;refine sdl A M TwH_is1_4 0 λA=>?_;refine sdm A λA=>?_;rcases pl with _|_
 ·refine sdm A λA=>?_;rcases tf (decide (s=⟨#[43]⟩))with af|af
  ·have af':=f5 af;refine sdo (v:=bV true) A (qb rfl rfl (fun w=>(je gi w).trans (by rw[af]<;>rfl))) λA=>?_;refine sdk (v:=bV true) A λA=>?_;refine sdm A λA=>?_;iterate 2 refine sks A λA=>?_
   refine sdk (v:=bV true) A λA=>?_;refine sdm A λA=>?_;iterate 2 refine sks A λA=>?_
   refine sdk (v:=bV true) A λA=>?_;refine sda A λA=>?_;refine qct ah A ?_;refine wrl (sdm A λA=>?_);refine sdn A λA=>?_;refine sdf A 0 TwH_fld_182_0 λA=>?_;refine sdm A λA=>?_;refine sct A ec (jo hp (toW (X:=[]) M) (s:=s) (by first|omega|(simp only[fv,fw,fx]; omega)|(simp only[fv,fw,fx,ByteArray.size,gg,Array.size]; omega))) ?_;rintro _ _ ⟨rfl,v3,aw⟩;replace M:=(zi (X:=[]) aw);refine⟨_,rfl,?_⟩;intro a A;refine qa (hnorm _ _ (jq (v:=.tuple #[]) A rfl .nil rfl ?_));refine⟨rfl,v3,?_⟩;have ac:=M.sub (L':=_::_::T) (cC (cC (.refl _)));rw[show qaj false s=s.data.toList from qnf (.inr (.inl af'))];simpa only[f4,gh,gq,f8]using ac
  ·have af':=fy af;refine sdo (v:=bV false) A (qb rfl rfl (fun w=>(je gi w).trans (by rw[af]<;>rfl))) λA=>?_;refine sdk (v:=bV false) A λA=>?_;iterate 2 refine sdm A λA=>?_
   rcases tf (decide (s=⟨#[45]⟩))with ag|ag
   ·have ag':=f5 ag;refine sdo (v:=bV true) A (qb rfl rfl (fun w=>(je gi w).trans (by rw[ag]<;>rfl))) λA=>?_;refine sdk (v:=bV true) A λA=>?_;refine sdm A λA=>?_;iterate 2 refine sks A λA=>?_
    refine sdk (v:=bV true) A λA=>?_;refine sda A λA=>?_;refine qct ah A ?_;refine wrl (sdm A λA=>?_);refine sdn A λA=>?_;refine sdf A 0 TwH_fld_182_0 λA=>?_;refine sdm A λA=>?_;refine sct A ec (jo hp (toW (X:=[]) M) (s:=s) (by first|omega|(simp only[fv,fw,fx]; omega)|(simp only[fv,fw,fx,ByteArray.size,gg,Array.size]; omega))) ?_;rintro _ _ ⟨rfl,v8,ax⟩;replace M:=(zi (X:=[]) ax);refine⟨_,rfl,?_⟩;intro a A;refine qa (hnorm _ _ (jq (v:=.tuple #[]) A rfl .nil rfl ?_));refine⟨rfl,v8,?_⟩;have ac:=M.sub (L':=_::_::T) (cC (cC (.refl _)));rw[show qaj false s=s.data.toList from qnf (.inr (.inr (.inl ag')))];simpa only[f4,gh,gq,f8]using ac
   ·have ag':=fy ag;refine sdo (v:=bV false) A (qb rfl rfl (fun w=>(je gi w).trans (by rw[ag]<;>rfl))) λA=>?_;refine sdk (v:=bV false) A λA=>?_;iterate 2 refine sdm A λA=>?_
    rcases tf (decide (s=⟨#[46,46,46]⟩))with aa|aa
    ·have aa':=f5 aa;refine sdo (v:=bV true) A (qb rfl rfl (fun w=>(je gi w).trans (by rw[aa]<;>rfl))) λA=>?_;refine sdk (v:=bV true) A λA=>?_;refine sda A λA=>?_;refine qct ah A ?_;refine wrl (sdm A λA=>?_);refine sdn A λA=>?_;refine sdf A 0 TwH_fld_182_0 λA=>?_;refine sdm A λA=>?_;refine sct A ec (jo hp (toW (X:=[]) M) (s:=s) (by first|omega|(simp only[fv,fw,fx]; omega)|(simp only[fv,fw,fx,ByteArray.size,gg,Array.size]; omega))) ?_;rintro _ _ ⟨rfl,ay,ak⟩;replace M:=(zi (X:=[]) ak);refine⟨_,rfl,?_⟩;intro a A;refine qa (hnorm _ _ (jq (v:=.tuple #[]) A rfl .nil rfl ?_));refine⟨rfl,ay,?_⟩;have ac:=M.sub (L':=_::_::T) (cC (cC (.refl _)));rw[show qaj false s=s.data.toList from qnf (.inr (.inr (.inr aa')))];simpa only[f4,gh,gq,f8]using ac
    ·have aa':=fy aa;refine sdo (v:=bV false) A (qb rfl rfl (fun w=>(je gi w).trans (by rw[aa]<;>rfl))) λA=>?_;refine sdk (v:=bV false) A λA=>?_;refine sda A λA=>?_;refine qcf ah A ?_;refine wsr fun _ ai=>sdm A λA=>?_;rcases tf (decide (s=⟨#[]⟩))with ab|ab
     ·have ab':=f5 ab;refine sdo (v:=bV true) A (qb rfl rfl (fun w=>(je gi w).trans (by rw[ab]<;>rfl))) λA=>?_;refine sda A λA=>?_;refine qct ai A ?_;refine wrl (sdm A λA=>?_);refine sdn A λA=>?_;refine sdf A 0 TwH_fld_182_0 λA=>?_;refine sct A ec (jo hp (toW (X:=[]) M) (s:=⟨#[124,124]⟩) (by first|omega|(simp only[fv,fw,fx]; omega)|(simp only[fv,fw,fx,ByteArray.size,gg,Array.size]; omega))) ?_;rintro _ _ ⟨rfl,az,am⟩;replace M:=(zi (X:=[]) am);refine⟨_,rfl,?_⟩;intro a A;refine qa (hnorm _ _ (jq (v:=.tuple #[]) A rfl .nil rfl ?_));refine⟨rfl,az,?_⟩;have ac:=M.sub (L':=_::_::T) (cC (cC (.refl _)));rw[show qaj false s=([124,124])from jsj (fun k=>by rcases k with k|k|k|k; cases k; exact af' k; exact ag' k; exact aa' k) ab'];simpa only[f4,gh,gq,f8]using ac
     ·have ab':=fy ab;refine sdo (v:=bV false) A (qb rfl rfl (fun w=>(je gi w).trans (by rw[ab]<;>rfl))) λA=>?_;refine sda A λA=>?_;refine qcf ai A ?_;refine wsr fun _ aj=>sdm A λA=>?_;rcases tf (Lib.hasPrefix s.data.toList [45,62])with ae|ae
      ·refine gcl A M ec (zbf (s:=s) (t:=⟨#[45,62]⟩) ae) fun _ _ M a A=>?_;refine sda A λA=>?_;refine qct aj A ?_;refine wsr fun _ ap=>sdm A λA=>?_;refine sdn A λA=>?_;refine sdf A 0 TwH_fld_182_0 λA=>?_;refine sct A ec (jo hp (toW (X:=[]) M) (s:=⟨#[45,62]⟩) (by first|omega|(simp only[fv,fw,fx]; omega)|(simp only[fv,fw,fx,ByteArray.size,gg,Array.size]; omega))) ?_;rintro _ _ ⟨rfl,_,aq⟩;replace M:=(zi (X:=[]) aq);refine⟨_,rfl,?_⟩;intro a A;refine qa (ap _ _ (wrl ?_));iterate 2 refine sdm A λA=>?_
       have hp2:=jab ae;have hee:=xih s 2;refine sdo (v:=.string (s.extract 2 s.size)) A (qwg (p:=2) gi rfl rfl hp2) λA=>?_;refine sct A ec (jtc (.inr rfl) (toW (X:=[]) M) hT (s:=s.extract 2 s.size) (fi:=false) (.inr rfl) (by omega) hz (by first|omega|(simp only[fv,fw,fx]; omega)|(simp only[fv,fw,fx,ByteArray.size,gg,Array.size]; omega))) ?_;rintro _ _ ⟨rfl,bd,ar⟩;replace M:=(zi (X:=[]) ar);refine⟨_,rfl,?_⟩;intro a A;refine qa (hnorm _ _ (jq (v:=.tuple #[]) A rfl .nil rfl ?_));refine⟨rfl,bd,?_⟩;have ac:=M.sub (L':=_::_::T) (cC (cC (.refl _)));rw[show qaj false s=([45,62])++(inL false (ze (s.extract 2 s.size).data.toList))from(by rw[jta (fun k=>by rcases k with k|k|k|k; cases k; exact af' k; exact ag' k; exact aa' k) ab' ae,jje])];simpa only[f4,gh,gq,f8]using ac
      ·refine gcl A M ec (zbf (s:=s) (t:=⟨#[45,62]⟩) ae) fun _ _ M a A=>?_;refine sda A λA=>?_;refine qcf aj A ?_;refine wrl ?_;iterate 2 refine sdm A λA=>?_
       refine sct A ec (jtc hp (toW (X:=[]) M) hT (s:=s) (fi:=true) (.inl (xcf ab')) (by omega) hz (by first|omega|(simp only[fv,fw,fx]; omega)|(simp only[fv,fw,fx,ByteArray.size,gg,Array.size]; omega))) ?_;rintro _ _ ⟨rfl,bf,au⟩;replace M:=(zi (X:=[]) au);refine⟨_,rfl,?_⟩;intro a A;refine qa (hnorm _ _ (jq (v:=.tuple #[]) A rfl .nil rfl ?_));refine⟨rfl,bf,?_⟩;have ac:=M.sub (L':=_::_::T) (cC (cC (.refl _)));rw[show qaj false s=(inL true (ze s.data.toList))from(by rw[jtb (fun k=>by rcases k with k|k|k|k; cases k; exact af' k; exact ag' k; exact aa' k) ab' ae])];simpa only[f4,gh,gq,f8]using ac
 ·iterate 2 refine sks A λA=>?_
  refine sdk (v:=bV true) A λA=>?_;refine sdm A λA=>?_;iterate 2 refine sks A λA=>?_
  refine sdk (v:=bV true) A λA=>?_;refine sdm A λA=>?_;iterate 2 refine sks A λA=>?_
  refine sdk (v:=bV true) A λA=>?_;refine sda A λA=>?_;refine qct ah A ?_;refine wrl (sdm A λA=>?_);refine sdn A λA=>?_;refine sdf A 0 TwH_fld_182_0 λA=>?_;refine sdm A λA=>?_;refine sct A ec (jo hp (toW (X:=[]) M) (s:=s) (by first|omega|(simp only[fv,fw,fx]; omega)|(simp only[fv,fw,fx,ByteArray.size,gg,Array.size]; omega))) ?_;rintro _ _ ⟨rfl,bg,av⟩;replace M:=(zi (X:=[]) av);refine⟨_,rfl,?_⟩;intro a A;refine qa (hnorm _ _ (jq (v:=.tuple #[]) A rfl .nil rfl ?_));refine⟨rfl,bg,?_⟩;have ac:=M.sub (L':=_::_::T) (cC (cC (.refl _)));rw[show qaj true s=s.data.toList from qnf (.inl rfl)];simpa only[f4,gh,gq,f8]using ac
theorem xii{w0 w:World}{gw:Nat}{p v:Value}{pl:Bool}{bs:List UInt8}{T:List Ck}(hp:p=.pointer none∨p=(pA gw 0))(hM0:Mg w0 w (.obj gw (.cells #[p,v,bV pl] 182)::.row BY 1 v bs.length (Lib.byteCells bs)::T))(hT:QT T){so:Option Addr}{ca:Nat}{l:List UInt8}(hb:Rb w0 so l)(hl:l.length≤2000000)(htp:C.Tp10 w0)(hroom:bs.length+(64*l.length+64)≤1000000000):Calls Tryz.prog 198 #[pA gw 0,.slice so l.length ca] w fun e w'=>e=.returned (.tuple #[])∧∃v',Mg w0 w' (.obj gw (.cells #[pA gw 0,v',bV pl] 182)::.row BY 1 v' (bs++(zmf l)).length (Lib.byteCells (bs++(zmf l)))::T):=by
 have M:Mg w0 w (.obj gw (.cells #[p,v,bV pl] 182)::.row BY 1 (v) bs.length ((Lib.byteCells bs))::T):=hM0;refine wof Tryz.func198 Tryz.ntmps198 fun Q hret hnorm hP a A=>?_;refine wsr fun _ az=>sdm A λA=>?_;refine sdn A λA=>?_;refine sdf A 0 TwH_fld_182_0 λA=>?_;refine sct A ec (jo hp (toW (X:=[]) M) (s:=⟨#[35,118,117,56,40]⟩) (by first|omega|(simp only[fv,fw,fx]; omega)|(simp only[fv,fw,fx,ByteArray.size,gg,Array.size]; omega))) ?_;rintro _ w5 ⟨rfl,v2,bd⟩;replace M:=(zi (X:=[]) bd);refine⟨_,rfl,?_⟩;intro a A;refine qwk az fun _ bf=>wsr fun _ bg=>sdm A λA=>?_;refine sdo A (qr ib rfl) λA=>?_;refine sdm A λA=>?_;refine qa (bg _ _ (wp_block ?_));replace M:Mg w0 w5 (.obj gw (.cells #[pA gw 0,v2,bV pl] 182)::.row BY 1 (v2) ((((bs++[35,118,117,56,40])++[])).length) ((Lib.byteCells (((bs++[35,118,117,56,40])++[]))))::T):=by
  have h9:=M;simp only[f4,gh,f8]at h9 ⊢;exact h9
 refine zg (fun m_ a w1=>∃(i:Nat) (acc:List UInt8) (vo:Value),m_=1+(l.length-i)∧(i≤l.length∧acc++quh (decide (i=0)) (l.drop i)=quh true l∧acc.length≤4*i)∧Sl a 32 [(0,pA gw 0),(1,.slice so l.length ca),(6,pA gw 0),(7,pA gw 0),(8,pA gw 0),(9,.tuple #[iV ((((⟨#[35,118,117,56,40]⟩:ByteArray).size:Nat):Int)),.nilIface]),(10,.slice so l.length ca),(11,iV (((l.length:Nat):Int))),(12,iV (((i:Nat):Int)))]∧Mg w0 w1 (.obj gw (.cells #[pA gw 0,vo,bV pl] 182)::.row BY 1 (vo) (((bs++[35,118,117,56,40])++acc).length) ((Lib.byteCells ((bs++[35,118,117,56,40])++acc)))::T)) _ ⟨0,[],v2,rfl,⟨ii _,rfl,ii _⟩,A.keep _ (by repeat' constructor),M⟩ ?_;clear M A;rintro m_ a _ ⟨i,acc,vo,rfl,ac,A,M⟩ _ ay;obtain⟨_,ae,ha9⟩:=ac;refine wsr fun _ af=>?_;rcases tf (decide (((i:Nat):Int)<((l.length:Nat):Int)))with ab|ab
 ·have ab':=f5 ab;refine sdc A qy ab λA=>?_;refine qa (af _ _ (wsk fun _ ai=>wp_cond_true (A.ev rfl) ?_));refine wp_skip (ai _ _ (wsk fun _ ag=>wp_block (wsr fun _ aj=>sdm A λA=>?_)));obtain⟨bx,ox,bh,bi,bj⟩:=qhf (i:=i) hb (by omega);have hX8:(l.getD i 0).toNat<256:=UInt8.toNat_lt _;have hd3:=qpi ⟨(l.getD i 0).toNat,hX8⟩;simp only at hd3;refine sdo (v:=pA bx (ox+i)) A (ja (k:=i) ib (by kernel_rfl) rfl rfl rfl bh (by omega)) λA=>?_;refine sdo A (qgh M bi (bj i (by omega)) TwH_is1_5 rfl) λA=>?_;iterate 2 refine sda A λA=>?_
  refine qwr aj fun _ ah=>?_;iterate 2 refine sdm A λA=>?_
  rcases tf (decide (i=0))with aa|aa
  ·have aa':=f5 aa;refine sct A ec ((show Calls Tryz.prog 250 #[pA gw 0,iV ((i:Nat):Int)] _ _ from by rw[aa']; exact jsa (toW (X:=[]) M))) ?_;rintro _ _ ⟨rfl,ak⟩;replace M:=(zi (X:=[]) ak);refine⟨_,rfl,?_⟩;intro a A;refine qa (ah _ _ (xg (S:=fun w1=>Mg w0 w1 ([])) (by kernel_rfl) ?_));replace M:=M.drew;refine atk A 0 rfl hP (M.sub (cN (cN ns))) (λ_ M=>zr rfl) λA=>?_;refine atk A 1 rfl hP (M.sub (cN (cN ns))) (λ_ M=>qef rfl) λA=>?_;refine atk (v:=pA gw 0) A 2 rfl hP (M.sub (cN (cN ns))) (λ_ M=>qp TwH_fld_182_0 rfl rfl) λA=>?_;refine atk A 3 rfl hP (M.sub (cN (cN ns))) (λ_ M=>zr rfl) λA=>?_;refine atk (v:=iV ((((l.getD i 0).toNat:Nat):Int))) A 4 rfl hP (M.sub (cN (cN ns))) (λ_ M=>zk rfl (ar_conv ir i8 (in_i64 (by omega) (by omega)))) λA=>?_;refine zn (by kernel_rfl) (jc A 5 rfl rfl rfl rfl ec (C.itoa_any (htp.below M.bel) hX8) ?_);rintro _ _ ⟨rfl,am⟩;replace M:=M.call am;refine⟨_,rfl,(M.sub (cN (cN ns))),?_⟩;intro a A;refine zn (by kernel_rfl) (jc A 6 rfl rfl rfl rfl ec (jo (.inr rfl) (toW (X:=[]) M) (s:=⟨(C.decD (l.getD i 0).toNat).toArray⟩) (by first|omega|(simp only[fv,fw,fx]; omega)|(simp only[fv,fw,fx,ByteArray.size,gg,Array.size]; omega))) ?_);rintro _ bn ⟨rfl,ap,aq⟩;replace M:=(zi (X:=[]) aq);refine⟨_,rfl,(M.sub (cN (cN ns))),?_⟩;intro a A;refine jl (by kernel_rfl) ?_
   refine ag _ _ (wrl (sdo (v:=iV (((i+1:Nat):Int))) A (qb rfl rfl (fun w=>(zq (jk (by omega) (by omega)) w).trans (by rw[show(((i:Nat):Int)+1:Int)=((i+1:Nat):Int)from by omega]))) λA=>?_));refine sdm A λA=>?_;refine qa ?_;replace M:Mg w0 bn (.obj gw (.cells #[pA gw 0,ap,bV pl] 182)::.row BY 1 (ap) ((((bs++[35,118,117,56,40])++(acc++([]++C.decD (l.getD i 0).toNat)))).length) ((Lib.byteCells (((bs++[35,118,117,56,40])++(acc++([]++C.decD (l.getD i 0).toNat))))))::T):=by
    have h9:=M;simp only[f4,gh,f8]at h9 ⊢;exact h9
   refine ay _ _ _ (by omega) ⟨i+1,acc++([]++C.decD (l.getD i 0).toNat),ap,rfl,⟨by omega,by rw[←ae,show decide (i+1=0)=false from gn (by omega),qvj (f:=decide (i=0)) (i:=i) (by omega),aa]; rw[gj rfl]; simp only[f4],by rw[fv,fv]; simp only[fw,fx]; omega⟩,A.keep _ (by repeat' constructor),M⟩
  ·have aa':=fy aa;refine sct A ec (jsb (.inr rfl) (toW (X:=[]) M) hT (i:=((i:Nat):Int)) (by omega) (by first|omega|(simp only[fv,fw,fx]; omega)|(simp only[fv,fw,fx,ByteArray.size,gg,Array.size]; omega))) ?_;rintro _ _ ⟨rfl,_,ar⟩;replace M:=(zi (X:=[]) ar);refine⟨_,rfl,?_⟩;intro a A;refine qa (ah _ _ (xg (S:=fun w1=>Mg w0 w1 ([])) (by kernel_rfl) ?_));replace M:=M.drew;refine atk A 0 rfl hP (M.sub (cN (cN ns))) (λ_ M=>zr rfl) λA=>?_;refine atk A 1 rfl hP (M.sub (cN (cN ns))) (λ_ M=>qef rfl) λA=>?_;refine atk (v:=pA gw 0) A 2 rfl hP (M.sub (cN (cN ns))) (λ_ M=>qp TwH_fld_182_0 rfl rfl) λA=>?_;refine atk A 3 rfl hP (M.sub (cN (cN ns))) (λ_ M=>zr rfl) λA=>?_;refine atk (v:=iV ((((l.getD i 0).toNat:Nat):Int))) A 4 rfl hP (M.sub (cN (cN ns))) (λ_ M=>zk rfl (ar_conv ir i8 (in_i64 (by omega) (by omega)))) λA=>?_;refine zn (by kernel_rfl) (jc A 5 rfl rfl rfl rfl ec (C.itoa_any (htp.below M.bel) hX8) ?_);rintro _ _ ⟨rfl,au⟩;replace M:=M.call au;refine⟨_,rfl,(M.sub (cN (cN ns))),?_⟩;intro a A;refine zn (by kernel_rfl) (jc A 6 rfl rfl rfl rfl ec (jo (.inr rfl) (toW (X:=[]) M) (s:=⟨(C.decD (l.getD i 0).toNat).toArray⟩) (by first|omega|(simp only[fv,fw,fx]; omega)|(simp only[fv,fw,fx,ByteArray.size,gg,Array.size]; omega))) ?_);rintro _ bp ⟨rfl,av,aw⟩
   replace M:=(zi (X:=[]) aw);refine⟨_,rfl,(M.sub (cN (cN ns))),?_⟩;intro a A;refine jl (by kernel_rfl) ?_;refine ag _ _ (wrl (sdo (v:=iV (((i+1:Nat):Int))) A (qb rfl rfl (fun w=>(zq (jk (by omega) (by omega)) w).trans (by rw[show(((i:Nat):Int)+1:Int)=((i+1:Nat):Int)from by omega]))) λA=>?_));refine sdm A λA=>?_;refine qa ?_;replace M:Mg w0 bp (.obj gw (.cells #[pA gw 0,av,bV pl] 182)::.row BY 1 (av) ((((bs++[35,118,117,56,40])++(acc++([32]++C.decD (l.getD i 0).toNat)))).length) ((Lib.byteCells (((bs++[35,118,117,56,40])++(acc++([32]++C.decD (l.getD i 0).toNat))))))::T):=by
    have h9:=M;simp only[f4,gh,f8]at h9 ⊢;exact h9
   refine ay _ _ _ (by omega) ⟨i+1,acc++([32]++C.decD (l.getD i 0).toNat),av,rfl,⟨by omega,by rw[←ae,show decide (i+1=0)=false from gn (by omega),qvj (f:=decide (i=0)) (i:=i) (by omega),aa,f7 (show ¬false=true by decide)]; simp only[f4],by rw[fv,fv]; simp only[fw,fx]; omega⟩,A.keep _ (by repeat' constructor),M⟩
 ·have ab':=fy ab;refine sdc A qy ab λA=>?_;refine qa (af _ _ (wsk fun _ _=>wp_cond_false (A.ev rfl) ?_));refine wp_exit (bf _ _ (wrl (sdm A λA=>?_)));refine sdn A λA=>?_;refine sdf A 0 TwH_fld_182_0 λA=>?_;refine sct A ec (zx (.inr rfl) (toW (X:=[]) M) hT (b:=41) (by first|omega|(simp only[fv,fw,fx]; omega)|(simp only[fv,fw,fx,ByteArray.size,gg,Array.size]; omega))) ?_;rintro _ _ ⟨rfl,bq,ax⟩;replace M:=(zi (X:=[]) ax);refine⟨_,rfl,?_⟩;intro a A;refine qa (hnorm _ _ (jq (v:=.tuple #[]) A rfl .nil rfl ?_));refine⟨rfl,bq,?_⟩;have br:=M.sub (L':=_::_::T) (cC (cC (.refl _)));rw[show zmf l=([35,118,117,56,40])++(acc++([41]))from(by unfold zmf; rw[←ae,ztc (by omega),gh,f4])];simpa only[f4,gh,gq,f8]using br
theorem xeg{a:List Nat}(hd:Dig a):(tD a 10).length≤32*a.length+1:=by
  rw[jse];unfold textS;by_cases hs:sound a=true
  · obtain⟨ea,na⟩:=sound_words hd hs;rw[hs,gv (show(2:Int)≤((10:Nat):Int)∧((10:Nat):Int)≤36 from by omega),Int.toNat_natCast];simp only[if_true]
    split
    · show 1≤_;omega
    · show(txt 10 (val a)).size≤_;rw[zsh];have h3:=zsi (r:=10) (by omega) (val a) (val a) (gm _);have h4:bl (val a)≤32*a.length:=bl_le.2 (by rw[←pw_two]; exact words_length_iff.1 (by rw[←ea]; exact gm _));omega
  · have hs:=lj.2 hs;rw[hs];show(0:Nat)≤_;omega
theorem jtd{t q:List Nat}(ht:Dig t)(hq:Dig q):(szL 10 t q).length≤32*(t.length+q.length)+3:=by
  have h1:=xeg ht;have h2:=xeg hq;unfold szL;rw[fv]
  split
  · simp only[fx]; omega
  · rw[fw]; omega
theorem ztd{q:Q6}(h:jld q):(jv 10 q).length≤32*(q.t1.length+q.q1.length+(q.t2.length+q.q2.length))+9:=by
  have hd:Dig q.t1∧Dig q.q1∧Dig q.t2∧Dig q.q2:=by
    obtain⟨u,v,rfl,_,_⟩:=h;exact⟨words_dig _,words_dig _,words_dig _,words_dig _⟩
  have h1:=jtd hd.1 hd.2.1;have h2:=jtd hd.2.2.1 hd.2.2.2;have h3:(zu 10 q.b1 q.t1 q.q1).length≤32*(q.t1.length+q.q1.length)+4:=by
    unfold zu;rw[fv]
    split<;>simp only[fw,fx]<;>omega
  have h4:(imL 10 q.b2 q.t2 q.q2).length≤32*(q.t2.length+q.q2.length)+4:=by
    unfold imL;rw[fv]
    split<;>split<;>simp only[fw,fx]<;>omega
  unfold jv
  split
  · omega
  · rw[fv,fv]
    split<;>simp only[fw,fx]<;>omega
theorem zgj{f:Int→List UInt8}(hf:∀n:Nat,n≤1114111→(f ((n:Nat):Int)).length≤9):∀(m:Nat) (l:List UInt8),((xq m l).flatMap f).length≤9*m
  | 0, l => by simp [xq]
  | m + 1, l => by
    unfold xq
    split
    · simp
    · rw[ij,fv];have h1:=zgj hf m (l.drop (decodeL l).2);have h2:=hf (decodeL l).1 (by have:=(qge l).1; omega);omega
theorem jac: ∀(m:Nat) (fl:Bool) (l:List UInt8),(inL fl (xq m l)).length≤9*m
  | 0, fl, l => by simp [xq, inL]
  | m + 1, fl, l => by
    unfold xq
    split
    · simp[inL]
    · rw[qjf,fv];have h1:=jac m false (l.drop (decodeL l).2);have h2:=ud fl (n:=(decodeL l).1) (by have:=(qge l).1; omega);omega
theorem xcg(pl:Bool)(s:ByteArray):(qlc pl s).length≤9*s.size+2:=by
  unfold qlc;have h1:=zgj (f:=C.strC) (fun n h=>zmi h) s.data.toList.length s.data.toList;have h2:=zm s
  split
  · omega
  · rw[fv,fv];simp only[fw,fx];unfold ze;omega
theorem xch(pl:Bool)(s:ByteArray):(qaj pl s).length≤9*s.size+2:=by
  unfold qaj;have h1:=jac s.data.toList.length true s.data.toList;have h3:=jac (s.data.toList.drop 2).length false (s.data.toList.drop 2);rw[il]at h3;have h2:=zm s
  split
  · omega
  · split
    · simp only[fw,fx]; omega
    · split
      · rw[fv];simp only[fw,fx];unfold ze;rw[il];omega
      · unfold ze;omega
theorem jei: ∀(f:Bool) (l:List UInt8),(quh f l).length≤4*l.length
  | _, [] => by simp [quh]
  | f, b :: bs => by
    have h1:=jei false bs;have h2:=qpi ⟨b.toNat,b.toNat_lt⟩;simp only at h2;unfold quh;rw[fv,fv,fw]
    split<;>simp only[fw,fx]<;>omega
theorem xci(pl:Bool){n:Int}(h0:0≤n)(h1:n≤1114111):(qad pl n).length≤11:=by
  unfold qad;have h2:=qbi n;have h3:=qfh n;have h4:=qfg (n:=n.toNat) (by omega);rw[Int.toNat_of_nonneg h0]at h4
  split
  · omega
  · rw[fv]
    split
    · rw[fv]; simp only[fw,fx]; omega
    · split
      · simp only[fw,fx]; omega
      · rw[fv]; simp only[fw,fx]; omega
theorem jte(pl:Bool){k n:Int}{q:Q6}{s:ByteArray}{rl:List UInt8}{ml:Nat}(b:Bare k n q s rl.length ml)(hr:k=3→jld q):(vd pl k n q s rl).length+16≤64*(s.size+rl.length+(q.t1.length+q.q1.length+(q.t2.length+q.q2.length))+1):=by
  have hn:=jle b;have h3:=xci pl hn.1 hn.2;have h4:=xcg pl s;have h5:=xch pl s;have h6:=jei true rl;have h7:=zm s;unfold vd zmf
  split
  · simp only[fw,fx]; omega
  split
  · split<;>simp only[fw,fx]<;>omega
  split
  · rename_i hk; have:=ztd (hr hk); omega
  split
  · omega
  split
  · omega
  split
  · omega
  split
  · simp only[fv,fw,fx]; omega
  split
  · simp only[fw,fx]; omega
  · simp only[fv,fw,fx]; omega
theorem zmj(pl:Bool):∀(f:Bool) (ts:List Tr),(∀t∈ts,(wrT pl t).length+16≤64*t.bulk)→(wrL pl f ts).length≤64*Tr.bulks ts
  | _, [], _ => by simp [wrL]
  | f, t :: ts, h => by
    have h1:=zmj pl false ts fun x hx=>h x (ix _ hx);have h2:=h t iw;rw[wrL,Tr.bulks,fv,fv]
    split<;>simp only[fw,fx]<;>omega
theorem qfi(pl:Bool):∀t:Tr,t.good→(wrT pl t).length+16≤64*t.bulk∧(tlT pl t).length+8≤64*t.bulk∧(itT pl t).length+16≤64*t.bulk:=by
  refine Tr.indT fun k n q s rl ts ih hg=>?_;rw[qvb]at hg;have hleaf:=jte pl hg.1 hg.2.1;have hv:=zmj pl true ts fun t ht=>(ih t ht (hg.2.2 t ht)).1;rw[xr];have h2:(tl2 pl ts).length≤64*Tr.bulks ts∧(prT pl ts).length≤64*Tr.bulks ts∧(it2 pl ts).length≤64*Tr.bulks ts:=by
    match ts with
    | [] => simp [tl2, prT, it2]
    | [a] => 
      have h1:=ih a (by simp) (hg.2.2 a (by simp));simp[tl2,prT,it2,Tr.bulks];omega
    | a :: b :: us =>
      have h1:=ih a (by simp) (hg.2.2 a (by simp));have h2:=ih b (by simp) (hg.2.2 b (by simp));rw[tl2,prT,it2,Tr.bulks,Tr.bulks];refine⟨?_,?_,by omega⟩
      · simp only[fv,fw,fx]; omega
      · split<;>simp only[fv,fw,fx]<;>omega
  rw[wrT,tlT,itT];refine⟨?_,?_,by omega⟩
  · split
    · omega
    · split
      · simp only[fv,fw,fx]; omega
      · omega
  · split
    · omega
    · split
      · simp only[fx]; omega
      · rw[fv]
        split<;>simp only[fv,fw,fx]<;>omega
section
variable {t p p0 p1:Dt} {pl:Bool}
theorem qbc: wrT pl t.tr=if t.d.k=8 then prT pl (t.ts.map Dt.tr)else if t.d.k=9 then[35,40]++wrL pl true (t.ts.map Dt.tr)++[41]else vd pl t.d.k t.d.n t.d.y.q t.d.s t.d.rl:=by rw[Dt.tr_eta,wrT]
theorem qpj(h:p.d.k=8)(l2:p.ts.length=2)(i0:p.ts[0]?=some p0)(i1:p.ts[1]?=some p1):tlT pl p.tr=[32]++wrT pl p0.tr++tlT pl p1.tr:=by
  rw[Dt.tr_eta,tlT,gj h,qmc l2 i0 i1];simp only[i6,lg,tl2]
theorem jtf(h:p.d.k=1):tlT pl p.tr=[]:=by rw[Dt.tr_eta,tlT,f7 (by omega),gj h]
theorem jtg(h:p.d.k≠8)(h1:p.d.k≠1):tlT pl p.tr=[32,46,32]++wrT pl p.tr:=by
  rw[qbc]
  conv=>lhs; rw[Dt.tr_eta,tlT,f7 h,f7 h1]
  rw[f7 h]
theorem zte(h:t.d.k=8)(l2:t.ts.length=2)(i0:t.ts[0]?=some p0)(i1:t.ts[1]?=some p1)(hq:(isQ p0.tr&&qtT p1.tr)=true):wrT pl t.tr=[39]++itT pl p1.tr:=by
  rw[qbc,gj h,qmc l2 i0 i1];simp only[i6,lg,prT];rw[gj hq]
theorem zna(h:t.d.k=8)(l2:t.ts.length=2)(i0:t.ts[0]?=some p0)(i1:t.ts[1]?=some p1)(hq:(isQ p0.tr&&qtT p1.tr)=false):wrT pl t.tr=[40]++(wrT pl p0.tr++tlT pl p1.tr)++[41]:=by
  rw[qbc,gj h,qmc l2 i0 i1];simp only[i6,lg,prT];rw[f7 (by rw[hq]; decide)];simp only[f4]
theorem jth{f:Bool}{i:Nat}(hi:t.ts[i]?=some p):wrL pl f ((t.ts.map Dt.tr).drop i)=(if f=true then[]else[32])++wrT pl p.tr++wrL pl false ((t.ts.map Dt.tr).drop (i+1)):=by rw[yv hi,wrL]
theorem xcj{f:Bool}{i:Nat}(h:¬i<t.ts.length):wrL pl f ((t.ts.map Dt.tr).drop i)=[]:=by rw[qbj h,wrL]
theorem qsf: isQ p.tr=(decide (p.d.k=6)&&decide (p.d.s=⟨#[113,117,111,116,101]⟩)):=by rw[Dt.tr_eta]; rfl
theorem ztf(h:p.d.k=8)(l2:p.ts.length=2)(i0:p.ts[0]?=some p0)(i1:p.ts[1]?=some p1):qtT p.tr=decide (p1.d.k=1):=by
  rw[Dt.tr_eta,qtT,gv h,qmc l2 i0 i1,Bool.true_and];simp only[i6,lg];rw[show([p0.tr,p1.tr].getD 1 (.mk 0 0 Q6.none ⟨#[]⟩ [] []))=p1.tr from rfl,Dt.tr_eta p1];rfl
theorem xeh(h:p.d.k≠8):qtT p.tr=false:=by rw[Dt.tr_eta,qtT,gn h,Bool.false_and]
theorem xlc(l2:p.ts.length=2)(i0:p.ts[0]?=some p0)(i1:p.ts[1]?=some p1):itT pl p.tr=wrT pl p0.tr:=by
  rw[Dt.tr_eta,itT,qmc l2 i0 i1];simp only[i6,lg,it2]
theorem qki(l2:p.ts.length=2)(i0:p.ts[0]?=some p0)(i1:p.ts[1]?=some p1):p0.tr.bulk+p1.tr.bulk+1≤p.tr.bulk:=by
  rw[Dt.tr_eta p,xr,qmc l2 i0 i1];simp only[i6,lg,Tr.bulks];omega
theorem zbg{ts:List Dt}{i:Nat}{t:Dt}(hi:ts[i]?=some t):Tr.bulks ((ts.map Dt.tr).drop i)=t.tr.bulk+Tr.bulks ((ts.map Dt.tr).drop (i+1)):=by rw[yv hi,Tr.bulks]
theorem qqa: Tr.bulks (t.ts.map Dt.tr)+1≤t.tr.bulk:=by
  rw[Dt.tr_eta t,xr];omega
end
end Go.Proofs.YtmnlfahgklnpeaaGreatDoor.G
namespace Go.Proofs.YtmnlfahgklnpeaaGreatDoor

section
variable {H:Type}
theorem ztg(d:DataW H):0<Rows.uptoBulk d:=by
  unfold Rows.uptoBulk
  split<;>omega
theorem zth: ∀l:List (DataW H),l.length≤Rows.uptoBulkAll l
  | [] => by simp
  | d :: l => by
    have h1:=ztg d;have h2:=zth l;simp only[Rows.uptoBulkAll,fw];omega
theorem zbh(xs ys:List (DataW H)):xs.length≤Rows.uptoBulk (.slice xs ys):=by
  have:=zth xs;simp only[Rows.uptoBulk];omega
theorem qdh{d:DataW H}:∀{l:List (DataW H)},d∈l→Rows.uptoBulk d≤Rows.uptoBulkAll l
  | c :: l, h => by
    simp only[Rows.uptoBulkAll];rcases ik.1 h with rfl|h
    · omega
    · have:=qdh h;omega
theorem qwa{l:List (DataW H)}(hk:Rows.uptoSmall H l=true){j:Nat}{d:DataW H}(hd:l[j]?=some d):Rows.uptoBulk d≤1048576:=
  gz (qdh (List.mem_of_getElem? hd)) (f5 hk)
end
end Go.Proofs.YtmnlfahgklnpeaaGreatDoor
namespace Go.Proofs.YtmnlfahgklnpeaaGreatDoor.G
open Go.ChangeShapes Go.WideShapes Go.ChangeAt Go.RowKit Go.Joins Go.Deep

section
variable {H:Type} {enc:TypeId×Value→H} {W:World}
end
theorem jjf{w:World}{x:Addr}{len cap:Nat}{zs:List Int}(hl:len≤cap)(hz:zs.length=cap)
    (hc:∀i,i<zs.length→w.cell? (x.add i)=some (.int .u8 (zs.getD i 0))) (hw:∀n∈zs,(Lit.int .u8 n).wf=true) :
    ∃l:List UInt8,l.length=len∧Rb w (some x) l:=by
  have hbd:∀n∈zs,0≤n∧n<256:=by
    intro n hn;have:=bounds_u8 (hw n hn);omega
  refine⟨(zs.take len).map b8,by rw[gy,li]; omega,⟨fun hne=>?_⟩⟩;have hlen:((zs.take len).map b8).length=len:=by rw[gy,li]; omega
  have h0:0<len:=by
    apply Classical.byContradiction;intro h;have:len=0:=(by omega);subst this;simp at hne
  obtain⟨b,off,spot⟩:=x;have hspot:spot=none:=by
    have:=hc 0 (by omega);simp only[World.cell?,Addr.add]at this
    split at this
    · cases spot with
      | none => rfl
      | some s => simp at this
    · cases this
  subst hspot;have hcj:∀j,j<len→w.cell? ⟨b,off+j,none⟩=some (.int .u8 (((((zs.take len).map b8).getD j 0).toNat:Nat):Int)):=by
    intro j hj;have h1:=hc j (by omega);rw[Addr.add_lit]at h1;rw[h1];have hjz:j<zs.length:=(by omega);have h2:=hbd zs[j] (ip hjz);have e1:zs.getD j 0=zs[j]:=(by simp[hjz]);have e2:((zs.take len).map b8).getD j 0=b8 zs[j]:=(by simp[List.getD_eq_getElem?_getD,hj,hjz]);rw[e1,e2,xfc h2.1 h2.2]
  refine⟨b,off,rfl,?_,fun j hj=>hcj j (by omega)⟩;have:=hcj 0 h0;apply Classical.byContradiction;intro h;simp[World.cell?,Array.getElem?_eq_none (Nat.le_of_not_lt h)]at this
section
variable {H:Type} {enc:TypeId×Value→H} {W:World}
end
theorem Rb.take{w:World}{so:Option Addr}{l:List UInt8}(h:Rb w so l)(n:Nat):Rb w so (l.take n):=by
  refine⟨fun hne=>?_⟩;obtain⟨b,off,h1,h2,h3⟩:=h.pos (fun k=>hne (by rw[k]; simp));refine⟨b,off,h1,h2,fun j hj=>?_⟩;rw[li]at hj;rw[h3 j (by omega),List.getD_eq_getElem?_getD,List.getD_eq_getElem?_getD,List.getElem?_take_of_lt (by omega)]
section
variable {P:Program} {w:World} {l:List (Nat×Value)} {dst:Option Tmp} {ty:TypeId} {pos:String} {after:Array Edge} {guard:Option (Nat×Bool)}
end
def Nu.cells(y:Nu):List Value:=[.bool y.q.b1,.slice y.o1 y.q.t1.length y.c1,.slice y.o2 y.q.q1.length y.c2,.bool y.q.b2,.slice y.o3 y.q.t2.length y.c3,.slice y.o4 y.q.q2.length y.c4]
theorem jti{w:World}{b o:Nat}{v:Value}(h:w.cell? ⟨b,o,none⟩=some v):b<w.heap.size:=by
  apply Classical.byContradiction;intro k;simp[World.cell?,Array.getElem?_eq_none (Nat.le_of_not_lt k)]at h
section
variable {H:Type} {enc:TypeId×Value→H} {W:World}
theorem qqb(l:List (DataW H)):Rows.uptoBulk (.agg l)=Rows.uptoBulkAll l+1:=by simp only[Rows.uptoBulk]
theorem zti{fuel:Nat}{v:Value}{x:DataW H×List MemPlace}(h:DataW.trod enc Tryz.prog W 0 (fun _=>true) true fuel 27 [v]=some x):∃so cap l,v=.slice so (l:List UInt8).length cap∧Rb W so l∧l.length≤cap∧cap≤9223372036854775807∧l.length≤Rows.uptoBulk x.1:=by
  rcases open_ints ib ir (by kernel_rfl) h with⟨hcs,_⟩|⟨x,l,c,zs,hcs,_,hl,hm,hz,hx,hcell,hwz⟩
  · simp only[List.cons.injEq,and_true]at hcs;subst hcs;exact⟨none,0,[],rfl,⟨fun k=>absurd rfl k⟩,gm _,by decide,ii _⟩
  · simp only[List.cons.injEq,and_true]at hcs;subst hcs;obtain⟨us,e,ha⟩:=jjf hl (by simpa using hz) hcell hwz;subst e;subst hx;refine⟨_,_,us,rfl,ha,hl,hm,?_⟩;simp only[if_true]at hz;refine gz ?_ (zbh _ _);simp only[lits,gy,li,il];omega
theorem qub{fuel:Nat}{v:Value}{x:DataW H×List MemPlace}(h:DataW.trod enc Tryz.prog W 0 (fun _=>true) true fuel 22 [v]=some x):∃ao c l,v=.slice ao (l:List Nat).length c∧Arg W ao c l∧l.length≤Rows.uptoBulk x.1:=by
  rcases open_ints im Tryz.underlying144 (by kernel_rfl) h with⟨hcs,_⟩|⟨x,l,c,zs,hcs,_,hl,hm,hz,hx,hcell,hwz⟩
  · cases hcs
    exact⟨none,0,[],rfl,arg_nil W,ii _⟩
  · cases hcs
    obtain⟨us,e,ha⟩:=arg_row hl hm (by simpa using hz) hcell hwz;subst e;subst hx;refine⟨_,_,us,rfl,ha,?_⟩;simp only[if_true]at hz;refine gz ?_ (zbh _ _);simp only[lits,gy,li,il];omega
theorem zha{fuel:Nat}{v0 v1 v2:Value}{x:DataW H×List MemPlace}(h:DataW.trod enc Tryz.prog W 0 (fun _=>true) true fuel 24 [v0,v1,v2]=some x):∃b o1 c1 l1 o2 c2 l2,v0=.bool b∧v1=.slice o1 (l1:List Nat).length c1∧v2=.slice o2 (l2:List Nat).length c2∧Arg W o1 c1 l1∧Arg W o2 c2 l2∧l1.length+l2.length≤Rows.uptoBulk x.1:=by
  obtain⟨y0,y1,y2,n,hx,_,h0,h1,h2⟩:=trod_struct3 iv h;have e0:Tryz.prog.cellsOf 4=1:=by kernel_rfl
  have e1:Tryz.prog.cellsOf 22=1:=by kernel_rfl
  simp only[e0,e1,List.drop_zero,List.take_succ_cons,List.take_zero,List.drop_succ_cons]at h0 h1 h2;obtain⟨b,rfl⟩:=trod_bool h0;obtain⟨o1,c1,l1,rfl,a1,k1⟩:=qub h1;obtain⟨o2,c2,l2,rfl,a2,k2⟩:=qub h2;refine⟨b,o1,c1,l1,o2,c2,l2,rfl,rfl,rfl,a1,a2,?_⟩;rw[hx,qqb];simp only[Rows.uptoBulkAll];omega
theorem jjg{fuel:Nat}{cs:List Value}{x:DataW H×List MemPlace}(hl:cs.length=6)(h:DataW.trod enc Tryz.prog W 0 (fun _=>true) true fuel 26 cs=some x):
    ∃y:Nu,cs=y.cells∧y.nm W∧LenQ y.q∧y.q.t1.length+y.q.q1.length+(y.q.t2.length+y.q.q2.length)≤Rows.uptoBulk x.1:=by
  match cs,hl with
  | [_, _, _, _, _, _], _ =>
    obtain⟨y0,y1,n,hx,_,h0,h1⟩:=trod_struct2 j7 h;have e:Tryz.prog.cellsOf 24=3:=(by kernel_rfl);simp only[e,List.drop_zero,List.take_succ_cons,List.take_zero,List.drop_succ_cons]at h0 h1;obtain⟨b1,o1,c1,l1,o2,c2,l2,rfl,rfl,rfl,a1,a2,k1⟩:=zha h0;obtain⟨b2,o3,c3,l3,o4,c4,l4,rfl,rfl,rfl,a3,a4,k2⟩:=zha h1;refine⟨⟨⟨b1,l1,l2,b2,l3,l4⟩,o1,c1,o2,c2,o3,c3,o4,c4⟩,rfl,⟨⟨a1.rd,a1.nil,a1.caps⟩,⟨a2.rd,a2.nil,a2.caps⟩,⟨a3.rd,a3.nil,a3.caps⟩,⟨a4.rd,a4.nil,a4.caps⟩⟩,⟨a1.len,a2.len,a3.len,a4.len⟩,?_⟩;rw[hx,qqb];simp only[Rows.uptoBulkAll];omega
def OpenD(H:Type)(enc:TypeId×Value→H)(W:World)(fuel:Nat):Prop:=∀(cs:List Value) (x:DataW H×List MemPlace),DataW.trod enc Tryz.prog W 0 (fun _=>true) true fuel 30 cs=some x→∃t:Dt,cs=t.cells∧t.rd W∧t.tr.bulk≤Rows.uptoBulk x.1
theorem qng{fuel:Nat}{v:Value}{x:DataW H×List MemPlace}(ih:∀n,n<fuel→OpenD H enc W n)(h:DataW.trod enc Tryz.prog W 0 (fun _=>true) true fuel 28 [v]=some x):
    ∃lo lc ts,v=.slice lo (ts:List Dt).length lc∧ts.length≤lc∧lc≤9223372036854775807∧Rt W lo ts∧(∀t∈ts,t.rd W)∧Tr.bulks (ts.map Dt.tr)≤Rows.uptoBulk x.1:=by
  rcases DataW.trod_slice f9 h with⟨hcs,_⟩|⟨a,len,cap,elems,rest,n,hf,hcs,hx,_,hl,hm,hlen,hel,_,_⟩
  · simp only[List.cons.injEq,and_true]at hcs;subst hcs;exact⟨none,0,[],rfl,gm _,by decide,fun k=>absurd rfl k,fun _ k=>by simp at k,ii _⟩
  · simp only[List.cons.injEq,and_true]at hcs;subst hcs;rw[show Tryz.prog.cellsOf 30=11 from by kernel_rfl]at hel;have each:∀i,∃t:Dt,i<len→t.rd W∧(∀j v,t.cells[j]?=some v→W.cell? ((a.add (i*11)).add j)=some v)∧∃y,elems[i]?=some y∧t.tr.bulk≤Rows.uptoBulk y.1:=by
      intro i;by_cases hi:i<len
      · have h1:=hel i hi;rw[List.getElem?_eq_getElem (by omega)]at h1;obtain⟨cs,h2,h3⟩:=Option.bind_eq_some_iff.1 h1;obtain⟨_,hlc,hcell⟩:=World.cells?_some h2;obtain⟨t,rfl,hr,hb⟩:=ih n (by omega) cs _ h3;exact⟨t,fun _=>⟨hr,fun j v hj=>by rw[hcell j (by have:=(List.getElem?_eq_some_iff.1 hj).1; rw[hlc]at this; exact this)]; exact hj,_,List.getElem?_eq_getElem (by omega),hb⟩⟩
      · exact⟨.mk ⟨0,0,⟨⟨false,[],[],false,[],[]⟩,none,0,none,0,none,0,none,0⟩,⟨#[]⟩,none,0,[],none,0⟩ [],fun k=>absurd k hi⟩
    obtain⟨F,hF⟩:=Classical.skolem.1 each;have hget:∀(j:Nat) (q:Dt),((List.range len).map F)[j]?=some q→j<len∧q=F j:=by
      intro j q hq;rw[List.getElem?_map]at hq;obtain⟨y,h1,h2⟩:=Option.map_eq_some_iff.1 hq;obtain⟨h3,h4⟩:=List.getElem?_eq_some_iff.1 h1;rw[List.length_range]at h3;rw[List.getElem_range]at h4;subst h4;exact⟨h3,h2.symm⟩
    refine⟨some a,cap,(List.range len).map F,by simp,by simpa using hl,hm,fun hne=>?_,fun t ht=>?_,?_⟩
    · have hn:0<len:=by
        apply Classical.byContradiction;intro k;exact hne (by rw[show len=0 from by omega]; rfl)
      obtain⟨b,off,spot⟩:=a;have h0:=(hF 0 hn).2.1 0 _ rfl;have hspot:spot=none:=(by simpa[Addr.add]using World.cell?_spot h0);subst hspot;refine⟨b,off,rfl,fun i t hi=>?_⟩;obtain⟨hlt,rfl⟩:=hget i t hi;have hat:∀j v,(F i).cells[j]?=some v→W.cell? ⟨b,off+i*11+j,none⟩=some v:=fun j v hj=>by
        have:=(hF i hlt).2.1 j v hj
        rwa [Addr.add_lit,Addr.add_lit]at this
      exact⟨jti (hat 0 _ rfl),hat⟩
    · obtain⟨j,hj⟩:=List.mem_iff_getElem?.1 ht;obtain⟨h1,rfl⟩:=hget j t hj;exact(hF j h1).1
    · rw[hx];have key:∀m,m≤len→Tr.bulks (((List.range m).map F).map Dt.tr)≤Rows.uptoBulkAll ((elems.map (·.1)).take m):=by
        intro m
        induction m with
        | zero => intro _; simp [Tr.bulks]
        | succ m ih2 =>
          intro hm2;have hs:∀(l:List Tr) (t:Tr),Tr.bulks (l++[t])=Tr.bulks l+t.bulk:=by
            intro l t
            induction l with
            | nil => simp [Tr.bulks]
            | cons u l ih3 => simp only [gq, Tr.bulks, ih3]; omega
          have hu:∀(l:List (DataW H)) (d:DataW H),Rows.uptoBulkAll (l++[d])=Rows.uptoBulkAll l+Rows.uptoBulk d:=by
            intro l d
            induction l with
            | nil => simp [Rows.uptoBulkAll]
            | cons u l ih3 => simp only [gq, Rows.uptoBulkAll, ih3]; omega
          obtain⟨_,_,y,hy,hb⟩:=hF m (by omega);have:=ih2 (by omega);rw[List.range_succ,j6,j6,List.take_add_one,List.getElem?_map,hy];simp only[i6,lg,Option.map_some,Option.toList_some];rw[hs,hu];omega
      have h1:=key len (gm _);rw[ld (by rw[gy]; omega)]at h1;simp only[Rows.uptoBulk];omega
theorem znb: ∀fuel,OpenD H enc W fuel:=by
  intro fuel
  induction fuel using Nat.strongRecOn with
  | ind fuel ih =>
    intro cs x h;obtain⟨xs,n,hfu,hx,hl,hxl,hf⟩:=DataW.trod_struct iu h;rw[show Tryz.prog.cellsOf 30=11 from by kernel_rfl]at hl
    match cs,hl with
    | [_, _, _, _, _, _, _, _, _, _, _], _ =>
      match xs,hxl with
      | [x0, x1, x2, x3, x4, x5], _ =>
        have g0:=hf 0 _ rfl;have g1:=hf 1 _ rfl;have g2:=hf 2 _ rfl;have g3:=hf 3 _ rfl;have g4:=hf 4 _ rfl;have g5:=hf 5 _ rfl;have c1:Tryz.prog.cellsOf 3=1:=(by kernel_rfl);have c2:Tryz.prog.cellsOf 26=6:=(by kernel_rfl);have c3:Tryz.prog.cellsOf 9=1:=(by kernel_rfl);have c4:Tryz.prog.cellsOf 27=1:=(by kernel_rfl);have c5:Tryz.prog.cellsOf 28=1:=(by kernel_rfl);simp only[c1,c2,c3,c4,c5,List.drop_zero,List.take_succ_cons,List.take_zero,List.drop_succ_cons,List.getElem?_cons_zero,List.getElem?_cons_succ]at g0 g1 g2 g3 g4 g5;obtain⟨k,e0,_,w0⟩:=DataW.trod_int i8 g0;obtain⟨m,e1,_,w1⟩:=DataW.trod_int i8 g1;obtain⟨y,e2,hy,hq,b2⟩:=jjg rfl g2;obtain⟨s,e3,hs,hsm⟩:=DataW.trod_string gi g3;obtain⟨ro,rc,rl,e4,hr,hrc,hrm,b4⟩:=zti g4;obtain⟨lo,lc,ts,e5,hlc,hlm,hrt,hrd,b5⟩:=qng (fun n' hn'=>ih n' (by omega)) g5;have bk:=bounds_i64 w0;have bm:=bounds_i64 w1;refine⟨.mk ⟨k,m,y,s,ro,rc,rl,lo,lc⟩ ts,?_,?_,?_⟩
        · injection e0 with f0;injection e1 with f1;injection e3 with f3;injection e2 with e20 g;injection g with e21 g;injection g with e22 g;injection g with e23 g;injection g with e24 g;injection g with e25 g;subst f0 f1 f3 e4 e5 e20 e21 e22 e23 e24 e25;rfl
        · rw[Dt.rd_iff];exact⟨⟨hy,hq,hr,hrc,hrm,bk.1,bk.2,bm.1,bm.2,hsm⟩,hlc,hlm,hrt,hrd⟩
        · rw[Dt.tr_mk,xr,hx,qqb];have h3:Rows.uptoBulk x3.1=s.size+1:=by
            rw[hs];rw[show Rows.uptoBulk (DataW.lit (H:=H) (.string s.data.toList))=s.data.toList.length+1 from by simp only[Rows.uptoBulk],Array.length_toList];rfl
          simp only[i6,lg,Rows.uptoBulkAll];have:=ztg x0.1;omega
theorem zbi{base:Nat}{v:Value}{d:DataW H}{p:List MemPlace}(hv:Value.okWide Tryz.prog W .any base 30 v)(h:DataW.Trod enc Tryz.prog W 0 (fun _=>true) true 30 v d p):
    ∃t:Dt,v=.agg t.cells.toArray∧t.rd W∧t.tr.bulk≤Rows.uptoBulk d:=by
  obtain⟨cs,rfl,hsz⟩:=okWide_struct iu hv;obtain⟨fuel,hf⟩:=h;obtain⟨t,e,hr,hb⟩:=znb fuel _ _ hf;refine⟨t,?_,hr,hb⟩;rw[←e];rfl
theorem jjh{base:Nat}{v:Value}{d:DataW H}{p:List MemPlace}(hv:Value.okWide Tryz.prog W .any base 28 v)(h:DataW.Trod enc Tryz.prog W 0 (fun _=>true) true 28 v d p):
    ∃lo lc ts,v=.slice lo (ts:List Dt).length lc∧ts.length≤lc∧Rt W lo ts∧(∀t∈ts,t.rd W)∧Tr.bulks (ts.map Dt.tr)≤Rows.uptoBulk d:=by
  obtain⟨a,n,c,rfl⟩:=okWide_slice f9 hv;obtain⟨fuel,hf⟩:=h;obtain⟨lo,lc,ts,e,h1,_,h2,h3,h4⟩:=qng (v:=.slice a n c) (fun n _=>znb n) hf;exact⟨lo,lc,ts,e,h1,h2,h3,h4⟩
end
open Go.RowKit
theorem TwI_is1_28: Is1 Tryz.prog 28:=⟨⟨_,f9,rfl⟩,by kernel_rfl⟩
theorem TwI_is1_3: Is1 Tryz.prog 3:=⟨⟨_,i8,rfl⟩,by kernel_rfl⟩
theorem TwI_is1_9: Is1 Tryz.prog 9:=⟨⟨_,gi,rfl⟩,by kernel_rfl⟩
theorem TwI_fld_182_0: FieldAt Tryz.prog 182 0 0:=⟨_,_,lh,rfl,rfl,by kernel_rfl⟩
theorem TwI_fld_30_0: FieldAt Tryz.prog 30 0 0:=⟨_,_,iu,rfl,rfl,by kernel_rfl⟩
theorem TwI_fld_30_3: FieldAt Tryz.prog 30 3 8:=⟨_,_,iu,rfl,rfl,by kernel_rfl⟩
theorem TwI_fld_30_5: FieldAt Tryz.prog 30 5 10:=⟨_,_,iu,rfl,rfl,by kernel_rfl⟩
theorem TwI_isS_30: IsS Tryz.prog 30 11:=⟨⟨_,iu⟩,by kernel_rfl⟩
section
variable {P:Program} {w0 w:World} {L:List Ck} {l:List (Nat×Value)} {ops:List Oper} {Q:Exit→Act→World→Prop} {a:Act} {n:Nat} {o:Oper} {rest:List Oper} {d:Nat} {S:World→Prop} {md:Region.Mode} {fuel:Nat} {listed:Array Bool}
theorem jej(A:Sl a n l)(M:Mg w0 w L)(i:Nat)(hi:ops[i]?=some o)(hg:zf l ops o=true)(hdst:o.dst=some d)(hd:Nat.blt d n=true){vs:List Value}{t:TypeId}(val:Nat→Value)(he:Does P l o w (val w.heap.size) (w.alloc (.cells vs.toArray t)))(ht:t≠BY)
  (hk:∀g w',Mg w0 w' (.obj g (.cells vs.toArray t)::L)→S w'∧∀a',Sl a' n ((d,val g)::l)→wpAnyH P md ops.toArray Q S fuel (listed.setIfInBounds i true) a' w'):wpOp P ops.toArray Q i (fun a' w'=>S w'∧wpAnyH P md ops.toArray Q S fuel (listed.setIfInBounds i true) a' w') a w:=by
 have h:=hk _ _ (M.addObj _ (kj ht));exact zea A i hi hg hdst hd he h.1 h.2
end
theorem zbj{w:World}{t p0 p1:Dt}(l2:t.ts.length=2)(g1:p1.tr.good)(rp1_:p1.rd w){bp0 op0 bp1 op1:Nat}(lp0:t.d.lo=some ⟨bp0,op0,none⟩)(Hp0:Here w bp0 (op0+0*11) (p0.d.cells p0.ts.length))(lp1:t.d.lo=some ⟨bp1,op1,none⟩)(Hp1:Here w bp1 (op1+1*11) (p1.d.cells p1.ts.length)):Calls Tryz.prog 252 #[.agg (t.d.cells t.ts.length).toArray] w fun e w'=>(((isQ p0.tr&&qtT p1.tr)=true∧∃c0:Dt,p1.ts[0]?=some c0∧c0∈p1.ts∧p1.d.k=8∧p1.ts.length=2∧c0.rd w∧e=.returned (.tuple #[.agg (c0.d.cells c0.ts.length).toArray,bV true]))∨((isQ p0.tr&&qtT p1.tr)=false∧e=.returned (.tuple #[.agg zD.toArray,bV false])))∧Below w.heap.size w w':=by
 have M:=Mg.start w;refine wof Tryz.func252 Tryz.ntmps252 fun Q hret hnorm hP a A=>?_;refine wsr fun _ ap=>zj (vs:=[iV t.d.k,iV t.d.n,bV t.d.y.q.b1,.slice t.d.y.o1 t.d.y.q.t1.length t.d.y.c1,.slice t.d.y.o2 t.d.y.q.q1.length t.d.y.c2,bV t.d.y.q.b2,.slice t.d.y.o3 t.d.y.q.t2.length t.d.y.c3,.slice t.d.y.o4 t.d.y.q.q2.length t.d.y.c4,.string t.d.s,.slice t.d.ro t.d.rl.length t.d.rc,.slice t.d.lo t.ts.length t.d.lc]) (t:=30) A M rfl rfl rfl pg (qx rfl rfl) (by decide) ?_;intro g2 _ M a A;refine zj (vs:=zD) (t:=30) A M rfl rfl rfl pg (qm (z:=.agg zD.toArray) (by kernel_rfl) rfl) (by decide) ?_;intro g4 _ M a A;refine sda A λA=>?_;refine qwk ap fun K6 aq=>?_;have am:∀a w1,(∃(g4_:Nat) (g5_:Nat),Sl a 40 [(0,.agg (t.d.cells t.ts.length).toArray),(2,pA g4 0),(3,bV false),(4,pA g4_ 0),(5,pA g5_ 0)]∧Mg w w1 (.obj g5_ (.cells (p1.d.cells p1.ts.length).toArray 30)::.obj g4_ (.cells (p0.d.cells p0.ts.length).toArray 30)::.obj g4 zC::.obj g2 (.cells (t.d.cells t.ts.length).toArray 30)::[]))→K6 a w1:=by
  clear A M;rintro a _ ⟨g4_,g5_,A,M⟩;refine aq _ _ (wsk fun _ ar=>wsr fun _ af=>sdf A 0 TwI_fld_30_0 λA=>?_);refine sdl A M TwI_is1_3 1 λA=>?_;rcases tf ((p0.d.k != 6))with aa|aa
  ·have aa':=iy.1 aa;refine sdc A zh aa λA=>?_;refine sdm A λA=>?_;iterate 3 refine sks A λA=>?_
   refine sdk (v:=bV true) A λA=>?_;refine sdm A λA=>?_;iterate 3 refine sks A λA=>?_
   refine sdk (v:=bV true) A λA=>?_;refine sdm A λA=>?_;iterate 6 refine sks A λA=>?_
   refine sdk (v:=bV true) A λA=>?_;refine qct af A ?_;refine wsr fun _ ag=>sdo (v:=.agg zD.toArray) A (qn rfl (fun w=>by kernel_rfl)) λA=>?_;refine qt A M rfl rfl (qj rfl rfl rfl (by kernel_rfl) M 2 rfl rfl rfl) 2 rfl rfl rfl ?_;intro _ M;refine sda A λA=>?_;refine qa (ag _ _ (wp_ret (hret _ _ (en2 A rfl (zw M TwI_isS_30 rfl 2 rfl (cs:=zD) rfl rfl) (qf rfl) ?_))));exact⟨.inr ⟨by rw[qsf,gn aa']; rfl,rfl⟩,M.bel⟩
  ·have aa':=ie.1 aa;refine sdc A zh aa λA=>?_;refine sdm A λA=>?_;refine sdf A 8 TwI_fld_30_3 λA=>?_;refine sdl A M TwI_is1_9 1 λA=>?_;rcases tf (decide (p0.d.s=⟨#[113,117,111,116,101]⟩))with ab|ab
   ·have ab':=f5 ab;refine sdo (v:=bV false) A (qb rfl rfl (fun w=>(kx gi w).trans (by rw[ab]<;>rfl))) λA=>?_;refine sdk (v:=bV false) A λA=>?_;refine sdm A λA=>?_;refine sdf A 0 TwI_fld_30_0 λA=>?_;refine sdl A M TwI_is1_3 0 λA=>?_;rcases tf ((p1.d.k != 8))with ac|ac
    ·have ac':=iy.1 ac;refine sdc A zh ac λA=>?_;refine sdk (v:=bV true) A λA=>?_;refine sdm A λA=>?_;iterate 6 refine sks A λA=>?_
     refine sdk (v:=bV true) A λA=>?_;refine qct af A ?_;refine wsr fun _ ah=>sdo (v:=.agg zD.toArray) A (qn rfl (fun w=>by kernel_rfl)) λA=>?_;refine qt A M rfl rfl (qj rfl rfl rfl (by kernel_rfl) M 2 rfl rfl rfl) 2 rfl rfl rfl ?_;intro _ M;refine sda A λA=>?_;refine qa (ah _ _ (wp_ret (hret _ _ (en2 A rfl (zw M TwI_isS_30 rfl 2 rfl (cs:=zD) rfl rfl) (qf rfl) ?_))));exact⟨.inr ⟨by rw[xeh ac',Bool.and_false],rfl⟩,M.bel⟩
    ·have ac':=ie.1 ac;refine sdc A zh ac λA=>?_;refine sdk (v:=bV false) A λA=>?_;refine sdm A λA=>?_;refine sdf A 10 TwI_fld_30_5 λA=>?_;refine sdl A M TwI_is1_28 0 λA=>?_;have h81:p1.d.k=8:=ac';have l2q:=(jf g1).1.h8 h81;obtain⟨c0,bc0,oc0,ic0,mc0,rc0_,lc0,Hc0⟩:=qeh rp1_ (i:=0) (by omega);obtain⟨c1,bc1,oc1,ic1,mc1,rc1_,lc1,Hc1⟩:=qeh rp1_ (i:=1) (by omega);refine sdo (v:=pA bc1 (oc1+1*11)) A (qk (k:=1) f9 (by kernel_rfl) rfl rfl rfl lc1 (by omega)) λA=>?_;refine sdo (v:=pA bc1 (oc1+1*11)) A (qp TwI_fld_30_0 rfl rfl) λA=>?_;refine sdo A (xl (j:=0) M Hc1 TwI_is1_3 rfl rfl rfl) λA=>?_;rcases tf ((c1.d.k != 1))with ae|ae
     ·have ae':=iy.1 ae;refine sdc A zh ae λA=>?_;refine sdk (v:=bV true) A λA=>?_;refine qct af A ?_;refine wsr fun _ ai=>sdo (v:=.agg zD.toArray) A (qn rfl (fun w=>by kernel_rfl)) λA=>?_;refine qt A M rfl rfl (qj rfl rfl rfl (by kernel_rfl) M 2 rfl rfl rfl) 2 rfl rfl rfl ?_;intro _ M;refine sda A λA=>?_;refine qa (ai _ _ (wp_ret (hret _ _ (en2 A rfl (zw M TwI_isS_30 rfl 2 rfl (cs:=zD) rfl rfl) (qf rfl) ?_))));exact⟨.inr ⟨by rw[ztf h81 l2q ic0 ic1,gn ae',Bool.and_false],rfl⟩,M.bel⟩
     ·have ae':=ie.1 ae;refine sdc A zh ae λA=>?_;refine sdk (v:=bV false) A λA=>?_;refine qcf af A ?_;refine wp_skip (ar _ _ (wsr fun _ aj=>sdf A 10 TwI_fld_30_5 λA=>?_));refine sdl A M TwI_is1_28 0 λA=>?_;refine sdo (v:=pA bc0 (oc0+0*11)) A (qk (k:=0) f9 (by kernel_rfl) rfl rfl rfl lc0 (by omega)) λA=>?_;refine sdo A (zp M Hc0 TwI_isS_30 rfl rfl) λA=>?_;refine qt A M rfl rfl (qj rfl rfl rfl (by kernel_rfl) M 2 rfl rfl rfl) 2 rfl rfl rfl ?_;intro _ M;refine sda A λA=>?_;refine qa (aj _ _ (wp_ret (hret _ _ (en2 A rfl (zw M TwI_isS_30 rfl 2 rfl (cs:=[iV c0.d.k,iV c0.d.n,bV c0.d.y.q.b1,.slice c0.d.y.o1 c0.d.y.q.t1.length c0.d.y.c1,.slice c0.d.y.o2 c0.d.y.q.q1.length c0.d.y.c2,bV c0.d.y.q.b2,.slice c0.d.y.o3 c0.d.y.q.t2.length c0.d.y.c3,.slice c0.d.y.o4 c0.d.y.q.q2.length c0.d.y.c4,.string c0.d.s,.slice c0.d.ro c0.d.rl.length c0.d.rc,.slice c0.d.lo c0.ts.length c0.d.lc]) rfl rfl) (qf rfl) ?_))));exact⟨.inl ⟨by rw[qsf,ztf h81 l2q ic0 ic1,gv aa',gv ab',gv ae']; rfl,c0,ic0,mc0,h81,l2q,rc0_,rfl⟩,M.bel⟩
   ·have ab':=fy ab;refine sdo (v:=bV true) A (qb rfl rfl (fun w=>(kx gi w).trans (by rw[ab]<;>rfl))) λA=>?_;refine sdk (v:=bV true) A λA=>?_;refine sdm A λA=>?_;iterate 3 refine sks A λA=>?_
    refine sdk (v:=bV true) A λA=>?_;refine sdm A λA=>?_;iterate 6 refine sks A λA=>?_
    refine sdk (v:=bV true) A λA=>?_;refine qct af A ?_;refine wsr fun _ ak=>sdo (v:=.agg zD.toArray) A (qn rfl (fun w=>by kernel_rfl)) λA=>?_;refine qt A M rfl rfl (qj rfl rfl rfl (by kernel_rfl) M 2 rfl rfl rfl) 2 rfl rfl rfl ?_;intro _ M;refine sda A λA=>?_;refine qa (ak _ _ (wp_ret (hret _ _ (en2 A rfl (zw M TwI_isS_30 rfl 2 rfl (cs:=zD) rfl rfl) (qf rfl) ?_))));exact⟨.inr ⟨by rw[qsf,gn ab',Bool.and_false]; rfl,rfl⟩,M.bel⟩
 refine xg (S:=fun w1=>Mg w w1 (.obj g2 (.cells (t.d.cells t.ts.length).toArray 30)::[])) (by kernel_rfl) ?_;replace M:=M.drew;refine atk (v:=pA g2 10) A 0 rfl hP (M.sub (cN (cC ns))) (λ_ M=>qp TwI_fld_30_5 rfl rfl) λA=>?_;refine atk A 1 rfl hP (M.sub (cN (cC ns))) (λ_ M=>xy M TwI_is1_28 rfl 0 rfl rfl) λA=>?_;refine atk (v:=pA bp0 (op0+0*11)) A 2 rfl hP (M.sub (cN (cC ns))) (λ_ M=>qk (k:=0) f9 (by kernel_rfl) rfl rfl rfl lp0 (by omega)) λA=>?_;refine atk A 3 rfl hP (M.sub (cN (cC ns))) (λ_ M=>zp M Hp0 TwI_isS_30 rfl rfl) λA=>?_;refine atk (v:=pA g2 10) A 4 rfl hP (M.sub (cN (cC ns))) (λ_ M=>qp TwI_fld_30_5 rfl rfl) λA=>?_;refine atk A 5 rfl hP (M.sub (cN (cC ns))) (λ_ M=>xy M TwI_is1_28 rfl 0 rfl rfl) λA=>?_;refine atk (v:=pA bp1 (op1+1*11)) A 6 rfl hP (M.sub (cN (cC ns))) (λ_ M=>qk (k:=1) f9 (by kernel_rfl) rfl rfl rfl lp1 (by omega)) λA=>?_;refine atk A 7 rfl hP (M.sub (cN (cC ns))) (λ_ M=>zp M Hp1 TwI_isS_30 rfl rfl) λA=>?_;refine znf (rs:=[8,9]) (by kernel_rfl) (by simp) ⟨?_,?_,trivial⟩
 ·refine jej (vs:=zD) (t:=30) A M 8 rfl rfl rfl rfl pg (qm (z:=.agg zD.toArray) (by kernel_rfl) rfl) (by decide) ?_;intro g25 _ M;refine⟨(M.sub (cN (cN (cC ns)))),?_⟩;intro a A;refine zn (by kernel_rfl) (jej (vs:=zD) (t:=30) A M 9 rfl rfl rfl rfl pg (qm (z:=.agg zD.toArray) (by kernel_rfl) rfl) (by decide) ?_);intro g27 _ M;refine⟨(M.sub (cN (cN (cN (cC ns))))),?_⟩;intro a A;refine zn (by kernel_rfl) (qoe A M 10 rfl rfl rfl (qj rfl rfl rfl (by kernel_rfl) M 1 rfl rfl rfl) 1 rfl rfl rfl ?_);intro _ M;refine⟨(M.sub (cN (cN (cN (cC ns))))),?_⟩;refine zn (by kernel_rfl) (qoe A M 11 rfl rfl rfl (qj rfl rfl rfl (by kernel_rfl) M 0 rfl rfl rfl) 0 rfl rfl rfl ?_);intro _ M;refine⟨(M.sub (cN (cN (cN (cC ns))))),?_⟩;refine jl (by kernel_rfl) ?_;exact am _ _ ⟨g25,g27,A.keep _ ⟨rfl,rfl,rfl,rfl,rfl,trivial⟩,M⟩
 ·refine jej (vs:=zD) (t:=30) A M 9 rfl rfl rfl rfl pg (qm (z:=.agg zD.toArray) (by kernel_rfl) rfl) (by decide) ?_;intro g31 _ M;refine⟨(M.sub (cN (cN (cC ns)))),?_⟩;intro a A;refine zn (by kernel_rfl) (jej (vs:=zD) (t:=30) A M 8 rfl rfl rfl rfl pg (qm (z:=.agg zD.toArray) (by kernel_rfl) rfl) (by decide) ?_);intro g33 _ M;refine⟨(M.sub (cN (cN (cN (cC ns))))),?_⟩;intro a A;refine zn (by kernel_rfl) (qoe A M 10 rfl rfl rfl (qj rfl rfl rfl (by kernel_rfl) M 0 rfl rfl rfl) 0 rfl rfl rfl ?_);intro _ M;refine⟨(M.sub (cN (cN (cN (cC ns))))),?_⟩;refine zn (by kernel_rfl) (qoe A M 11 rfl rfl rfl (qj rfl rfl rfl (by kernel_rfl) M 1 rfl rfl rfl) 1 rfl rfl rfl ?_);intro _ M;refine⟨(M.sub (cN (cN (cN (cC ns))))),?_⟩;refine jl (by kernel_rfl) ?_;replace M:=M.perm (.swap _ _ _);exact am _ _ ⟨g33,g31,A.keep _ ⟨rfl,rfl,rfl,rfl,rfl,trivial⟩,M⟩
theorem jad{w:World}{t p0 p1:Dt}(l2:t.ts.length=2)(g1:p1.tr.good)(rp1_:p1.rd w){bp0 op0 bp1 op1:Nat}(lp0:t.d.lo=some ⟨bp0,op0,none⟩)(Hp0:Here w bp0 (op0+0*11) (p0.d.cells p0.ts.length))(lp1:t.d.lo=some ⟨bp1,op1,none⟩)(Hp1:Here w bp1 (op1+1*11) (p1.d.cells p1.ts.length))(hq:(isQ p0.tr&&qtT p1.tr)=true):Calls Tryz.prog 252 #[.agg (t.d.cells t.ts.length).toArray] w fun e w'=>∃c0:Dt,p1.ts[0]?=some c0∧c0∈p1.ts∧p1.d.k=8∧p1.ts.length=2∧c0.rd w∧e=.returned (.tuple #[.agg (c0.d.cells c0.ts.length).toArray,bV true])∧Below w.heap.size w w':=
 (zbj l2 g1 rp1_ lp0 Hp0 lp1 Hp1).mono fun e w' ⟨h,hb⟩=>by
  rcases h with⟨_,c0,h1,h2,h3,h4,h5,h6⟩|⟨h,_⟩
  ·exact⟨c0,h1,h2,h3,h4,h5,h6,hb⟩
  ·rw[hq]at h; cases h
theorem jji{w:World}{t p0 p1:Dt}(l2:t.ts.length=2)(g1:p1.tr.good)(rp1_:p1.rd w){bp0 op0 bp1 op1:Nat}(lp0:t.d.lo=some ⟨bp0,op0,none⟩)(Hp0:Here w bp0 (op0+0*11) (p0.d.cells p0.ts.length))(lp1:t.d.lo=some ⟨bp1,op1,none⟩)(Hp1:Here w bp1 (op1+1*11) (p1.d.cells p1.ts.length))(hq:(isQ p0.tr&&qtT p1.tr)=false):Calls Tryz.prog 252 #[.agg (t.d.cells t.ts.length).toArray] w (RB w (.tuple #[.agg zD.toArray,bV false])):=
 (zbj l2 g1 rp1_ lp0 Hp0 lp1 Hp1).mono fun e w' ⟨h,hb⟩=>by
  rcases h with⟨h,_⟩|⟨_,h⟩
  ·rw[hq]at h; cases h
  ·exact⟨h,hb⟩
def Writes(n:Nat):Prop:=∀{w0 w:World} {gw:Nat} {p v:Value} {pl:Bool} {bs:List UInt8} {T:List Ck} {t:Dt},(p=.pointer none∨p=(pA gw 0))→Mg w0 w (.obj gw (.cells #[p,v,bV pl] 182)::.row BY 1 v bs.length (Lib.byteCells bs)::T)→QT T→t.tr.bulk<n→t.rd w0→t.tr.good→C.Tz16 w0→C.Tp10 w0→t.tr.bulk≤1048576→bs.length+64*t.tr.bulk≤1000000000→Calls Tryz.prog 146 #[pA gw 0,.agg (t.d.cells t.ts.length).toArray] w fun e w'=>e=.returned (.tuple #[])∧∃v',Mg w0 w' (.obj gw (.cells #[pA gw 0,v',bV pl] 182)::.row BY 1 v' (bs++wrT pl t.tr).length (Lib.byteCells (bs++wrT pl t.tr))::T)
theorem xmf{w0 w:World}{gw:Nat}{p v:Value}{pl:Bool}{bs:List UInt8}{T:List Ck}(hp:p=.pointer none∨p=(pA gw 0))(hM0:Mg w0 w (.obj gw (.cells #[p,v,bV pl] 182)::.row BY 1 v bs.length (Lib.byteCells bs)::T))(hT:QT T){n:Nat}(ih:Writes n){t:Dt}(ht:t.rd w0)(gt:t.tr.good)(hbn:t.tr.bulk≤n)(hz:C.Tz16 w0)(htp:C.Tp10 w0)(hmax:t.tr.bulk≤1048576)(hroom:bs.length+(64*t.tr.bulk)≤1000000000):Calls Tryz.prog 200 #[pA gw 0,.slice t.d.lo t.ts.length t.d.lc] w fun e w'=>e=.returned (.tuple #[])∧∃v',Mg w0 w' (.obj gw (.cells #[pA gw 0,v',bV pl] 182)::.row BY 1 v' (bs++([35,40]++wrL pl true (t.ts.map Dt.tr)++[41])).length (Lib.byteCells (bs++([35,40]++wrL pl true (t.ts.map Dt.tr)++[41])))::T):=by
 have hlt:=(Dt.okT ht).2;have hbl:=qqa (t:=t);have M:Mg w0 w (.obj gw (.cells #[p,v,bV pl] 182)::.row BY 1 (v) bs.length ((Lib.byteCells bs))::T):=hM0;refine wof Tryz.func200 Tryz.ntmps200 fun Q hret hnorm hP a A=>?_;refine wsr fun _ az=>sdm A λA=>?_;refine sdn A λA=>?_;refine sdf A 0 TwI_fld_182_0 λA=>?_;refine sct A ec (jo hp (toW (X:=[]) M) (s:=⟨#[35,40]⟩) (by first|omega|(simp only[fv,fw,fx]; omega)|(simp only[fv,fw,fx,ByteArray.size,gg,Array.size]; omega))) ?_;rintro _ w5 ⟨rfl,v2,bd⟩;replace M:=(zi (X:=[]) bd);refine⟨_,rfl,?_⟩;intro a A;refine qwk az fun _ bf=>wsr fun _ bg=>sdm A λA=>?_;refine sdo A (qr f9 rfl) λA=>?_;refine sdm A λA=>?_;refine qa (bg _ _ (wp_block ?_));replace M:Mg w0 w5 (.obj gw (.cells #[pA gw 0,v2,bV pl] 182)::.row BY 1 (v2) ((((bs++[35,40])++[])).length) ((Lib.byteCells (((bs++[35,40])++[]))))::T):=by
  have h9:=M;simp only[f4,gh,f8]at h9 ⊢;exact h9
 refine zg (fun m_ a w1=>∃(i:Nat) (acc:List UInt8) (vo:Value),m_=1+(t.ts.length-i)∧(i≤t.ts.length∧acc++wrL pl (decide (i=0)) ((t.ts.map Dt.tr).drop i)=wrL pl true (t.ts.map Dt.tr)∧acc.length+64*Tr.bulks ((t.ts.map Dt.tr).drop i)≤64*Tr.bulks (t.ts.map Dt.tr))∧Sl a 28 [(0,pA gw 0),(1,.slice t.d.lo t.ts.length t.d.lc),(6,pA gw 0),(7,pA gw 0),(8,pA gw 0),(9,.tuple #[iV ((((⟨#[35,40]⟩:ByteArray).size:Nat):Int)),.nilIface]),(10,.slice t.d.lo t.ts.length t.d.lc),(11,iV (((t.ts.length:Nat):Int))),(12,iV (((i:Nat):Int)))]∧Mg w0 w1 (.obj gw (.cells #[pA gw 0,vo,bV pl] 182)::.row BY 1 (vo) (((bs++[35,40])++acc).length) ((Lib.byteCells ((bs++[35,40])++acc)))::T)) _ ⟨0,[],v2,rfl,⟨ii _,rfl,by rw[List.drop_zero,fx]; omega⟩,A.keep _ (by repeat' constructor),M⟩ ?_;clear M A;rintro m_ a _ ⟨i,acc,vo,rfl,ac,A,M⟩ _ aw;obtain⟨_,ae,ha9⟩:=ac;refine wsr fun _ af=>?_;rcases tf (decide (((i:Nat):Int)<((t.ts.length:Nat):Int)))with ab|ab
 ·have ab':=f5 ab;refine sdc A qy ab λA=>?_;refine qa (af _ _ (wsk fun _ ak=>wp_cond_true (A.ev rfl) ?_));refine wp_skip (ak _ _ (wsk fun _ ag=>wp_block (wsk fun _ am=>?_)));obtain⟨t1,bt1,ot1,it1,mt1,rt1_,lt1,Ht1⟩:=qeh ht (i:=i) (by omega);have hbk9:=zbg (ts:=t.ts) it1;have hw9:=(qfi pl t1.tr ((jf gt).2.2 _ mt1)).1;refine wrl (sdm A λA=>?_);refine sdo (v:=pA bt1 (ot1+i*11)) A (qk (k:=i) f9 (by kernel_rfl) rfl rfl rfl lt1 (by omega)) λA=>?_;refine sdo A (zp M Ht1 TwI_isS_30 rfl rfl) λA=>?_;refine zj (vs:=zD) (t:=30) A M rfl rfl rfl pg (qm (z:=.agg zD.toArray) (by kernel_rfl) rfl) (by decide) ?_;intro g16 _ M a A;refine sda A λA=>?_;refine qt A M rfl rfl (qj rfl rfl rfl (by kernel_rfl) M 0 rfl rfl rfl) 0 rfl rfl rfl ?_;intro _ M;refine qwr am fun _ ah=>?_;iterate 2 refine sdm A λA=>?_
  rcases tf (decide (i=0))with aa|aa
  ·have aa':=f5 aa;refine sct A ec ((show Calls Tryz.prog 250 #[pA gw 0,iV ((i:Nat):Int)] _ _ from by rw[aa']; exact jsa (toW (X:=[.obj g16 (.cells (t1.d.cells t1.ts.length).toArray 30)]) M))) ?_;rintro _ _ ⟨rfl,ap⟩;replace M:=(zi (X:=[.obj g16 (.cells (t1.d.cells t1.ts.length).toArray 30)]) ap);refine⟨_,rfl,?_⟩;intro a A;refine qa (ah _ _ (wrl (sdm A λA=>?_)));refine sdo A (qz M TwI_isS_30 rfl 0 rfl (cs:=[iV t1.d.k,iV t1.d.n,bV t1.d.y.q.b1,.slice t1.d.y.o1 t1.d.y.q.t1.length t1.d.y.c1,.slice t1.d.y.o2 t1.d.y.q.q1.length t1.d.y.c2,bV t1.d.y.q.b2,.slice t1.d.y.o3 t1.d.y.q.t2.length t1.d.y.c3,.slice t1.d.y.o4 t1.d.y.q.q2.length t1.d.y.c4,.string t1.d.s,.slice t1.d.ro t1.d.rl.length t1.d.rc,.slice t1.d.lo t1.ts.length t1.d.lc]) rfl rfl) λA=>?_;refine sct A ec (ih (.inr rfl) (toW (X:=[.obj g16 (.cells (t1.d.cells t1.ts.length).toArray 30)]) M) (.cons (by decide) hT) (t:=t1) (by have:=qhi mt1; omega) rt1_ ((jf gt).2.2 _ mt1) hz htp (by have:=qhi mt1; omega) (by simp only[fv,fw,fx]; omega)) ?_;rintro _ ax ⟨rfl,ai,aq⟩;replace M:=(zi (X:=[.obj g16 (.cells (t1.d.cells t1.ts.length).toArray 30)]) aq);refine⟨_,rfl,?_⟩;intro a A;refine qa (ag _ _ (wrl (sdo (v:=iV (((i+1:Nat):Int))) A (qb rfl rfl (fun w=>(zq (jk (by omega) (by omega)) w).trans (by rw[show(((i:Nat):Int)+1:Int)=((i+1:Nat):Int)from by omega]))) λA=>?_)));refine sdm A λA=>?_;refine qa ?_
   replace M:Mg w0 ax (.obj gw (.cells #[pA gw 0,ai,bV pl] 182)::.row BY 1 (ai) (((((bs++[35,40])++acc)++(wrT pl t1.tr))).length) ((Lib.byteCells ((((bs++[35,40])++acc)++(wrT pl t1.tr)))))::T):=by
    have h9:=M.sub (cN (cC (cC (.refl _))));exact h9
   replace M:Mg w0 ax (.obj gw (.cells #[pA gw 0,ai,bV pl] 182)::.row BY 1 (ai) ((((bs++[35,40])++(acc++([]++wrT pl t1.tr)))).length) ((Lib.byteCells (((bs++[35,40])++(acc++([]++wrT pl t1.tr))))))::T):=by
    have h9:=M;simp only[f4,gh,f8]at h9 ⊢;exact h9
   refine aw _ _ _ (by omega) ⟨i+1,acc++([]++wrT pl t1.tr),ai,rfl,⟨by omega,by rw[←ae,show decide (i+1=0)=false from gn (by omega),jth (f:=decide (i=0)) it1,aa]; rw[gj rfl]; simp only[f4],by simp only[fv,fw,fx]; omega⟩,A.keep _ (by repeat' constructor),M⟩
  ·have aa':=fy aa;refine sct A ec (jsb (.inr rfl) (toW (X:=[.obj g16 (.cells (t1.d.cells t1.ts.length).toArray 30)]) M) (.cons (by decide) hT) (i:=((i:Nat):Int)) (by omega) (by first|omega|(simp only[fv,fw,fx]; omega)|(simp only[fv,fw,fx,ByteArray.size,gg,Array.size]; omega))) ?_;rintro _ _ ⟨rfl,_,ar⟩;replace M:=(zi (X:=[.obj g16 (.cells (t1.d.cells t1.ts.length).toArray 30)]) ar);refine⟨_,rfl,?_⟩;intro a A;refine qa (ah _ _ (wrl (sdm A λA=>?_)));refine sdo A (qz M TwI_isS_30 rfl 0 rfl (cs:=[iV t1.d.k,iV t1.d.n,bV t1.d.y.q.b1,.slice t1.d.y.o1 t1.d.y.q.t1.length t1.d.y.c1,.slice t1.d.y.o2 t1.d.y.q.q1.length t1.d.y.c2,bV t1.d.y.q.b2,.slice t1.d.y.o3 t1.d.y.q.t2.length t1.d.y.c3,.slice t1.d.y.o4 t1.d.y.q.q2.length t1.d.y.c4,.string t1.d.s,.slice t1.d.ro t1.d.rl.length t1.d.rc,.slice t1.d.lo t1.ts.length t1.d.lc]) rfl rfl) λA=>?_;refine sct A ec (ih (.inr rfl) (toW (X:=[.obj g16 (.cells (t1.d.cells t1.ts.length).toArray 30)]) M) (.cons (by decide) hT) (t:=t1) (by have:=qhi mt1; omega) rt1_ ((jf gt).2.2 _ mt1) hz htp (by have:=qhi mt1; omega) (by simp only[fv,fw,fx]; omega)) ?_;rintro _ ay ⟨rfl,aj,au⟩;replace M:=(zi (X:=[.obj g16 (.cells (t1.d.cells t1.ts.length).toArray 30)]) au);refine⟨_,rfl,?_⟩;intro a A
   refine qa (ag _ _ (wrl (sdo (v:=iV (((i+1:Nat):Int))) A (qb rfl rfl (fun w=>(zq (jk (by omega) (by omega)) w).trans (by rw[show(((i:Nat):Int)+1:Int)=((i+1:Nat):Int)from by omega]))) λA=>?_)));refine sdm A λA=>?_;refine qa ?_;replace M:Mg w0 ay (.obj gw (.cells #[pA gw 0,aj,bV pl] 182)::.row BY 1 (aj) ((((((bs++[35,40])++acc)++([32]))++(wrT pl t1.tr))).length) ((Lib.byteCells (((((bs++[35,40])++acc)++([32]))++(wrT pl t1.tr)))))::T):=by
    have h9:=M.sub (cN (cC (cC (.refl _))));exact h9
   replace M:Mg w0 ay (.obj gw (.cells #[pA gw 0,aj,bV pl] 182)::.row BY 1 (aj) ((((bs++[35,40])++(acc++([32]++wrT pl t1.tr)))).length) ((Lib.byteCells (((bs++[35,40])++(acc++([32]++wrT pl t1.tr))))))::T):=by
    have h9:=M;simp only[f4,gh,f8]at h9 ⊢;exact h9
   refine aw _ _ _ (by omega) ⟨i+1,acc++([32]++wrT pl t1.tr),aj,rfl,⟨by omega,by rw[←ae,show decide (i+1=0)=false from gn (by omega),jth (f:=decide (i=0)) it1,aa,f7 (show ¬false=true by decide)]; simp only[f4],by simp only[fv,fw,fx]; omega⟩,A.keep _ (by repeat' constructor),M⟩
 ·have ab':=fy ab;refine sdc A qy ab λA=>?_;refine qa (af _ _ (wsk fun _ _=>wp_cond_false (A.ev rfl) ?_));refine wp_exit (bf _ _ (wrl (sdm A λA=>?_)));refine sdn A λA=>?_;refine sdf A 0 TwI_fld_182_0 λA=>?_;refine sct A ec (zx (.inr rfl) (toW (X:=[]) M) hT (b:=41) (by first|omega|(simp only[fv,fw,fx]; omega)|(simp only[fv,fw,fx,ByteArray.size,gg,Array.size]; omega))) ?_;rintro _ _ ⟨rfl,bh,av⟩;replace M:=(zi (X:=[]) av);refine⟨_,rfl,?_⟩;intro a A;refine qa (hnorm _ _ (jq (v:=.tuple #[]) A rfl .nil rfl ?_));refine⟨rfl,bh,?_⟩;have bi:=M.sub (L':=_::_::T) (cC (cC (.refl _)));rw[show[35,40]++wrL pl true (t.ts.map Dt.tr)++[41]=([35,40])++(acc++([41]))from(by rw[←ae,xcj (by omega),gh,f4])];simpa only[f4,gh,gq,f8]using bi
theorem TwJ_is1_27: Is1 Tryz.prog 27:=⟨⟨_,ib,rfl⟩,by kernel_rfl⟩
theorem TwJ_is1_28: Is1 Tryz.prog 28:=⟨⟨_,f9,rfl⟩,by kernel_rfl⟩
theorem TwJ_is1_3: Is1 Tryz.prog 3:=⟨⟨_,i8,rfl⟩,by kernel_rfl⟩
theorem TwJ_is1_9: Is1 Tryz.prog 9:=⟨⟨_,gi,rfl⟩,by kernel_rfl⟩
theorem TwJ_fld_182_0: FieldAt Tryz.prog 182 0 0:=⟨_,_,lh,rfl,rfl,by kernel_rfl⟩
theorem TwJ_fld_30_0: FieldAt Tryz.prog 30 0 0:=⟨_,_,iu,rfl,rfl,by kernel_rfl⟩
theorem TwJ_fld_30_1: FieldAt Tryz.prog 30 1 1:=⟨_,_,iu,rfl,rfl,by kernel_rfl⟩
theorem TwJ_fld_30_2: FieldAt Tryz.prog 30 2 2:=⟨_,_,iu,rfl,rfl,by kernel_rfl⟩
theorem TwJ_fld_30_3: FieldAt Tryz.prog 30 3 8:=⟨_,_,iu,rfl,rfl,by kernel_rfl⟩
theorem TwJ_fld_30_4: FieldAt Tryz.prog 30 4 9:=⟨_,_,iu,rfl,rfl,by kernel_rfl⟩
theorem TwJ_fld_30_5: FieldAt Tryz.prog 30 5 10:=⟨_,_,iu,rfl,rfl,by kernel_rfl⟩
theorem TwJ_isS_26: IsS Tryz.prog 26 6:=⟨⟨_,j7⟩,by kernel_rfl⟩
theorem TwJ_isS_30: IsS Tryz.prog 30 11:=⟨⟨_,iu⟩,by kernel_rfl⟩
theorem jub{w:World}{t c:Dt}(h:t.rd w)(hc:c∈t.ts):c.rd w:=by
 rw[←Dt.eta t,Dt.rd_iff]at h;exact h.2.2.2.2 c hc
theorem juc{pl:Bool}{p c:Dt}(h:p.ts[0]?=some c):itT pl p.tr=wrT pl c.tr:=by
 rw[Dt.tr_eta p,itT]
 match hh:p.ts,h with
 | x :: xs, h => simp at h; subst h; rw [i6, it2]
theorem jag{n:Int}(h:yw n=true)(h0:0≤n):C.OkR ((n.toNat:Nat):Int):=by
 unfold yw at h;unfold C.OkR;have:=f5 h;omega
theorem zca{t:Dt}:t.d.s.size+t.d.rl.length+1≤t.tr.bulk:=by
 rw[Dt.tr_eta t,xr];omega
theorem zcb{t:Dt}:t.d.s.size+t.d.rl.length+(t.d.y.q.t1.length+t.d.y.q.q1.length+(t.d.y.q.t2.length+t.d.y.q.q2.length))+1≤t.tr.bulk:=by
 rw[Dt.tr_eta t,xr];omega
theorem jkb{w:World}{y:Nu}(hy:y.nm w)(hl:LenQ y.q)(hs:xt y.q=true):Calls Tryz.prog 241 #[.agg #[bV y.q.b1,.slice y.o1 y.q.t1.length y.c1,.slice y.o2 y.q.q1.length y.c2,bV y.q.b2,.slice y.o3 y.q.t2.length y.c3,.slice y.o4 y.q.q2.length y.c4],iV 10] w (RB w (.tuple #[.string ⟨(jv 10 y.q).toArray⟩,iV 0])):=jjj hy hl (r:=10) (.inr (.inr (.inl rfl))) hs
theorem xmg{w0 w:World}{gw:Nat}{p v:Value}{pl:Bool}{bs:List UInt8}{T:List Ck}(hp:p=.pointer none∨p=(pA gw 0))(hM0:Mg w0 w (.obj gw (.cells #[p,v,bV pl] 182)::.row BY 1 v bs.length (Lib.byteCells bs)::T))(hT:QT T){y:Nu}(hy:y.nm w0)(hl:LenQ y.q)(hs:xt y.q=true)(hroom:bs.length+(jv 10 y.q).length≤1000000000):Calls Tryz.prog 194 #[pA gw 0,.agg #[bV y.q.b1,.slice y.o1 y.q.t1.length y.c1,.slice y.o2 y.q.q1.length y.c2,bV y.q.b2,.slice y.o3 y.q.t2.length y.c3,.slice y.o4 y.q.q2.length y.c4]] w fun e w'=>e=.returned (.tuple #[])∧∃v',Mg w0 w' (.obj gw (.cells #[pA gw 0,v',bV pl] 182)::.row BY 1 v' (bs++(jv 10 y.q)).length (Lib.byteCells (bs++(jv 10 y.q)))::T):=by
 have M:Mg w0 w (.obj gw (.cells #[p,v,bV pl] 182)::.row BY 1 (v) bs.length ((Lib.byteCells bs))::T):=hM0;refine wof Tryz.func194 Tryz.ntmps194 fun Q hret hnorm hP a A=>?_;refine wsr fun _ aa=>zj (vs:=[bV y.q.b1,.slice y.o1 y.q.t1.length y.c1,.slice y.o2 y.q.q1.length y.c2,bV y.q.b2,.slice y.o3 y.q.t2.length y.c3,.slice y.o4 y.q.q2.length y.c4]) (t:=26) A M rfl rfl rfl pg (qx rfl rfl) (by decide) ?_;intro g2 _ M a A;refine qa (aa _ _ (wsr fun K4 ab=>sdo A (qz M TwJ_isS_26 rfl 0 rfl (cs:=[bV y.q.b1,.slice y.o1 y.q.t1.length y.c1,.slice y.o2 y.q.q1.length y.c2,bV y.q.b2,.slice y.o3 y.q.t2.length y.c3,.slice y.o4 y.q.q2.length y.c4]) rfl rfl) λA=>?_));refine gcl A M ec (jkb (Nu.below hy M.bel) hl hs) fun _ hbx M a A=>?_;refine sdm A λA=>?_;iterate 2 refine sde A λA=>?_
 iterate 2 refine sda A λA=>?_
 refine qa (ab _ _ (wrl (sdm A λA=>?_)));refine sdn A λA=>?_;refine sdf A 0 TwJ_fld_182_0 λA=>?_;refine sdm A λA=>?_;refine sct A ec (jo hp (toW (X:=[.obj g2 (.cells #[bV y.q.b1,.slice y.o1 y.q.t1.length y.c1,.slice y.o2 y.q.q1.length y.c2,bV y.q.b2,.slice y.o3 y.q.t2.length y.c3,.slice y.o4 y.q.q2.length y.c4] 26)]) M) (s:=⟨(jv 10 y.q).toArray⟩) (by first|omega|(simp only[fv,fw,fx]; omega)|(simp only[fv,fw,fx,ByteArray.size,gg,Array.size]; omega))) ?_;rintro _ _ ⟨rfl,v6,ac⟩;replace M:=(zi (X:=[.obj g2 (.cells #[bV y.q.b1,.slice y.o1 y.q.t1.length y.c1,.slice y.o2 y.q.q1.length y.c2,bV y.q.b2,.slice y.o3 y.q.t2.length y.c3,.slice y.o4 y.q.q2.length y.c4] 26)]) ac);refine⟨_,rfl,?_⟩;intro a A;refine qa (hnorm _ _ (jq (v:=.tuple #[]) A rfl .nil rfl ?_));refine⟨rfl,v6,?_⟩;have ae:=M.sub (L':=_::_::T) (cN (cC (cC (.refl _))));simpa only[f4,gh,gq,f8]using ae
theorem zhd{w0 w:World}{gw:Nat}{p v:Value}{pl:Bool}{bs:List UInt8}{T:List Ck}(hp:p=.pointer none∨p=(pA gw 0))(hM0:Mg w0 w (.obj gw (.cells #[p,v,bV pl] 182)::.row BY 1 v bs.length (Lib.byteCells bs)::T))(hT:QT T){b:Bool}(hroom:bs.length+16≤1000000000):Calls Tryz.prog 193 #[pA gw 0,bV b] w fun e w'=>e=.returned (.tuple #[])∧∃v',Mg w0 w' (.obj gw (.cells #[pA gw 0,v',bV pl] 182)::.row BY 1 v' (bs++(if b=true then[35,116]else[35,102])).length (Lib.byteCells (bs++(if b=true then[35,116]else[35,102])))::T):=by
 cases b
 ·exact zsf hp hM0 hT (by simp only[fw,fx]; omega)
 ·exact zzi hp hM0 hT (by simp only[fw,fx]; omega)
theorem xld{w0 w:World}{gw:Nat}{p v:Value}{pl:Bool}{bs:List UInt8}{T:List Ck}(hp:p=.pointer none∨p=(pA gw 0))(hM0:Mg w0 w (.obj gw (.cells #[p,v,bV pl] 182)::.row BY 1 v bs.length (Lib.byteCells bs)::T))(hT:QT T){n:Nat}(ih:Writes n){t:Dt}(ht:t.rd w0)(gt:t.tr.good)(hbn:t.tr.bulk≤n)(hz:C.Tz16 w0)(htp:C.Tp10 w0)(hmax:t.tr.bulk≤1048576)(h8:t.d.k=8)(hroom:bs.length+(64*t.tr.bulk)≤1000000000):Calls Tryz.prog 199 #[pA gw 0,.agg (t.d.cells t.ts.length).toArray] w fun e w'=>e=.returned (.tuple #[])∧∃v',Mg w0 w' (.obj gw (.cells #[pA gw 0,v',bV pl] 182)::.row BY 1 v' (bs++(wrT pl t.tr)).length (Lib.byteCells (bs++(wrT pl t.tr)))::T):=by
 have l2t:=(jf gt).1.h8 h8;obtain⟨q0,bq0,oq0,iq0,mq0,rq0_,lq0,Hq0⟩:=qeh ht (i:=0) (by omega);obtain⟨q1,bq1,oq1,iq1,mq1,rq1_,lq1,Hq1⟩:=qeh ht (i:=1) (by omega);have gq1:=(jf gt).2.2 _ mq1;have hbq1:=qhi mq1;have hbody:(tlT pl t.tr).drop 1=wrT pl q0.tr++tlT pl q1.tr:=by
  rw[qpj h8 l2t iq0 iq1];rfl
 have M:Mg w0 w (.obj gw (.cells #[p,v,bV pl] 182)::.row BY 1 (v) bs.length ((Lib.byteCells bs))::T):=hM0;refine wof Tryz.func199 Tryz.ntmps199 fun Q hret hnorm hP a A=>?_;refine wsr fun _ cm=>zj (vs:=[iV t.d.k,iV t.d.n,bV t.d.y.q.b1,.slice t.d.y.o1 t.d.y.q.t1.length t.d.y.c1,.slice t.d.y.o2 t.d.y.q.q1.length t.d.y.c2,bV t.d.y.q.b2,.slice t.d.y.o3 t.d.y.q.t2.length t.d.y.c3,.slice t.d.y.o4 t.d.y.q.q2.length t.d.y.c4,.string t.d.s,.slice t.d.ro t.d.rl.length t.d.rc,.slice t.d.lo t.ts.length t.d.lc]) (t:=30) A M rfl rfl rfl pg (qx rfl rfl) (by decide) ?_;intro g2 _ M a A;refine qa (cm _ _ (wsk fun K4 cn=>wsr fun _ cj=>sdo A (qz M TwJ_isS_30 rfl 0 rfl (cs:=[iV t.d.k,iV t.d.n,bV t.d.y.q.b1,.slice t.d.y.o1 t.d.y.q.t1.length t.d.y.c1,.slice t.d.y.o2 t.d.y.q.q1.length t.d.y.c2,bV t.d.y.q.b2,.slice t.d.y.o3 t.d.y.q.t2.length t.d.y.c3,.slice t.d.y.o4 t.d.y.q.q2.length t.d.y.c4,.string t.d.s,.slice t.d.ro t.d.rl.length t.d.rc,.slice t.d.lo t.ts.length t.d.lc]) rfl rfl) λA=>?_));rcases tf ((isQ q0.tr&&qtT q1.tr))with ag|ag
 ·refine sct A ec (jad (p0:=q0) (p1:=q1) l2t gq1 (Dt.keep M.bel _ rq1_) lq0 (Hq0.below M.bel) lq1 (Hq1.below M.bel) ag) ?_;rintro _ _ ⟨c0,ic0,mc0,k8q,l2q,_,rfl,hbq⟩;have rc0_:=jub rq1_ mc0;have hbc0:=qhi mc0;replace M:=M.call hbq;refine⟨_,rfl,?_⟩;intro a A;refine sdm A λA=>?_;iterate 2 refine sde A λA=>?_
  refine zj (vs:=zD) (t:=30) A M rfl rfl rfl pg (qm (z:=.agg zD.toArray) (by kernel_rfl) rfl) (by decide) ?_;intro g8 _ M a A;refine qt A M rfl rfl (qj rfl rfl rfl (by kernel_rfl) M 0 rfl rfl rfl) 0 rfl rfl rfl ?_;intro _ M;refine sda A λA=>?_;refine qwr cj fun _ au=>sdm A λA=>?_;refine qct au A ?_;refine wsr fun _ av=>sdm A λA=>?_;refine sdn A λA=>?_;refine sdf A 0 TwJ_fld_182_0 λA=>?_;refine sct A ec (zx hp (toW (X:=[.obj g8 (.cells (c0.d.cells c0.ts.length).toArray 30),.obj g2 (.cells (t.d.cells t.ts.length).toArray 30)]) M) (.cons (by decide) (.cons (by decide) hT)) (b:=39) (by first|omega|(simp only[fv,fw,fx]; omega)|(simp only[fv,fw,fx,ByteArray.size,gg,Array.size]; omega))) ?_;rintro _ _ ⟨rfl,_,aw⟩;replace M:=(zi (X:=[.obj g8 (.cells (c0.d.cells c0.ts.length).toArray 30),.obj g2 (.cells (t.d.cells t.ts.length).toArray 30)]) aw);refine⟨_,rfl,?_⟩;intro a A;refine qwr av fun _ ax=>sdm A λA=>?_;refine sdo A (qz M TwJ_isS_30 rfl 0 rfl (cs:=[iV c0.d.k,iV c0.d.n,bV c0.d.y.q.b1,.slice c0.d.y.o1 c0.d.y.q.t1.length c0.d.y.c1,.slice c0.d.y.o2 c0.d.y.q.q1.length c0.d.y.c2,bV c0.d.y.q.b2,.slice c0.d.y.o3 c0.d.y.q.t2.length c0.d.y.c3,.slice c0.d.y.o4 c0.d.y.q.q2.length c0.d.y.c4,.string c0.d.s,.slice c0.d.ro c0.d.rl.length c0.d.rc,.slice c0.d.lo c0.ts.length c0.d.lc]) rfl rfl) λA=>?_
  refine sct A ec (ih (.inr rfl) (toW (X:=[.obj g8 (.cells (c0.d.cells c0.ts.length).toArray 30),.obj g2 (.cells (t.d.cells t.ts.length).toArray 30)]) M) (.cons (by decide) (.cons (by decide) hT)) (t:=c0) (by skip; omega) rc0_ ((jf gq1).2.2 _ mc0) hz htp (by skip; omega) (by simp only[fv,fw,fx]; omega)) ?_;rintro _ _ ⟨rfl,co,ay⟩;replace M:=(zi (X:=[.obj g8 (.cells (c0.d.cells c0.ts.length).toArray 30),.obj g2 (.cells (t.d.cells t.ts.length).toArray 30)]) ay);refine⟨_,rfl,?_⟩;intro a A;refine qa (ax _ _ (wp_ret (hret _ _ (jq (v:=.tuple #[]) A rfl .nil rfl ?_))));refine⟨rfl,co,?_⟩;have ah:=M.sub (L':=_::_::T) (cN (cN (cC (cC (.refl _)))));rw[show wrT pl t.tr=([39])++(wrT pl c0.tr)from(by rw[zte h8 l2t iq0 iq1 ag,juc ic0])];simpa only[f4,gh,gq,f8]using ah
 ·refine gcl A M ec (jji (p0:=q0) (p1:=q1) l2t gq1 (Dt.keep M.bel _ rq1_) lq0 (Hq0.below M.bel) lq1 (Hq1.below M.bel) ag) fun _ hbq M a A=>?_;refine sdm A λA=>?_;iterate 2 refine sde A λA=>?_
  refine zj (vs:=zD) (t:=30) A M rfl rfl rfl pg (qm (z:=.agg zD.toArray) (by kernel_rfl) rfl) (by decide) ?_;intro g23 _ M a A;refine qt A M rfl rfl (qj rfl rfl rfl (by kernel_rfl) M 0 rfl rfl rfl) 0 rfl rfl rfl ?_;intro _ M;refine sda A λA=>?_;refine qwr cj fun _ az=>sdm A λA=>?_;refine qcf az A ?_;refine wp_skip (cn _ _ (wsr fun _ bd=>sdm A λA=>?_));refine sdn A λA=>?_;refine sdf A 0 TwJ_fld_182_0 λA=>?_;refine sct A ec (zx hp (toW (X:=[.obj g23 zC,.obj g2 (.cells (t.d.cells t.ts.length).toArray 30)]) M) (.cons (by decide) (.cons (by decide) hT)) (b:=40) (by first|omega|(simp only[fv,fw,fx]; omega)|(simp only[fv,fw,fx,ByteArray.size,gg,Array.size]; omega))) ?_;rintro _ ck ⟨rfl,ai,bf⟩;replace M:=(zi (X:=[.obj g23 zC,.obj g2 (.cells (t.d.cells t.ts.length).toArray 30)]) bf);refine⟨_,rfl,?_⟩;intro a A;refine qwk bd fun _ bg=>wsr fun _ bh=>sda A λA=>?_;refine qa (bh _ _ (wp_block ?_));replace M:Mg w0 ck (.obj g2 (.cells (t.d.cells t.ts.length).toArray 30)::.obj gw (.cells #[pA gw 0,ai,bV pl] 182)::.row BY 1 (ai) (((bs++([40]))).length) ((Lib.byteCells ((bs++([40])))))::T):=by
   have h9:=M.sub (cN (cC (cC (cC (.refl _)))));exact h9
  replace M:Mg w0 ck (.obj g2 (.cells (t.d.cells t.ts.length).toArray 30)::.obj gw (.cells #[pA gw 0,ai,bV pl] 182)::.row BY 1 (ai) ((((bs++[40])++[])).length) ((Lib.byteCells (((bs++[40])++[]))))::T):=by
   have h9:=M;simp only[f4,gh,f8]at h9 ⊢;exact h9
  refine zg (fun m_ a w1=>∃(i:Nat) (p:Dt) (acc:List UInt8) (vo:Value),m_=1+p.tr.bulk∧(p.rd w0∧p.tr.good∧(i=0→p=t)∧(0<i→acc.length+64*p.tr.bulk+48≤64*t.tr.bulk)∧acc.length+64*p.tr.bulk≤64*t.tr.bulk∧i+p.tr.bulk≤t.tr.bulk∧acc++(tlT pl p.tr).drop (if i=0 then 1 else 0)=(tlT pl t.tr).drop 1)∧Sl a 56 [(0,pA gw 0),(1,.agg (t.d.cells t.ts.length).toArray),(3,pA g2 0),(4,pA g23 0),(5,bV false),(6,iV (((i:Nat):Int))),(7,.tuple #[.agg zD.toArray,bV false]),(8,.agg (t.d.cells t.ts.length).toArray),(9,.tuple #[.agg zD.toArray,bV false]),(10,.agg zD.toArray),(11,bV false),(12,bV false),(20,pA gw 0),(21,pA gw 0),(22,pA gw 0),(23,.nilIface)]∧Mg w0 w1 (.obj g2 (.cells (p.d.cells p.ts.length).toArray 30)::.obj gw (.cells #[pA gw 0,vo,bV pl] 182)::.row BY 1 (vo) (((bs++[40])++acc).length) ((Lib.byteCells ((bs++[40])++acc)))::T)) _ ⟨0,t,[],ai,rfl,⟨ht,gt,fun _=>rfl,fun h=>absurd h (Nat.lt_irrefl _),by rw[fx]; omega,by omega,by rw[gj rfl,f8]⟩,A.keep _ (by repeat' constructor),M⟩ ?_;clear M A;rintro m_ a _ ⟨i,p,acc,vo,rfl,af,A,M⟩ _ aj;obtain⟨hp_,gp,hpt,hlen,ha9,hib,ae⟩:=af;refine wsk fun _ bi=>wsr fun _ ak=>sdf A 0 TwJ_fld_30_0 λA=>?_;refine sdl A M TwJ_is1_3 0 λA=>?_;rcases tf ((p.d.k==8))with aa|aa
  ·have aa':=gr aa;refine sdc A qe aa λA=>?_;refine qct ak A ?_;refine wp_skip (bi _ _ (wsk fun _ am=>wp_block (wsr fun _ ap=>?_)));iterate 2 refine sdm A λA=>?_
   rcases tf (decide (i=0))with ac|ac
   ·have ac':=f5 ac;refine sct A ec ((show Calls Tryz.prog 250 #[pA gw 0,iV ((i:Nat):Int)] _ _ from by rw[ac']; exact jsa (toW (X:=[.obj g2 (.cells (p.d.cells p.ts.length).toArray 30)]) M))) ?_;rintro _ _ ⟨rfl,bj⟩;replace M:=(zi (X:=[.obj g2 (.cells (p.d.cells p.ts.length).toArray 30)]) bj);refine⟨_,rfl,?_⟩;intro a A;refine qwk ap fun _ bn=>?_;have l2p:=(jf gp).1.h8 aa';obtain⟨p0,bp0,op0,ip0,mp0,rp0_,lp0,Hp0⟩:=qeh hp_ (i:=0) (by omega);obtain⟨p1,bp1,op1,ip1,mp1,rp1_,lp1,Hp1⟩:=qeh hp_ (i:=1) (by omega);have hbp:=qki l2p ip0 ip1;have hw9:=(qfi pl p0.tr ((jf gp).2.2 _ mp0)).1;have htl:=qpj (pl:=pl) aa' l2p ip0 ip1;refine wrl (sdm A λA=>?_);refine sdf A 10 TwJ_fld_30_5 λA=>?_;refine sdl A M TwJ_is1_28 0 λA=>?_;refine sdo (v:=pA bp0 (op0+0*11)) A (qk (k:=0) f9 (by kernel_rfl) rfl rfl rfl lp0 (by omega)) λA=>?_;refine sdo A (zp M Hp0 TwJ_isS_30 rfl rfl) λA=>?_;refine sct A ec (ih (.inr rfl) (toW (X:=[.obj g2 (.cells (p.d.cells p.ts.length).toArray 30)]) M) (.cons (by decide) hT) (t:=p0) (by skip; omega) rp0_ ((jf gp).2.2 _ mp0) hz htp (by skip; omega) (by simp only[fv,fw,fx]; omega)) ?_;rintro _ _ ⟨rfl,bp,bq⟩;replace M:=(zi (X:=[.obj g2 (.cells (p.d.cells p.ts.length).toArray 30)]) bq);refine⟨_,rfl,?_⟩;intro a A;refine qa (bn _ _ (wrl (sdf A 10 TwJ_fld_30_5 λA=>?_)));refine sdl A M TwJ_is1_28 0 λA=>?_
    refine sdo (v:=pA bp1 (op1+1*11)) A (qk (k:=1) f9 (by kernel_rfl) rfl rfl rfl lp1 (by omega)) λA=>?_;refine sdo A (zp M Hp1 TwJ_isS_30 rfl rfl) λA=>?_;refine qt A M rfl rfl (qj rfl rfl rfl (by kernel_rfl) M 0 rfl rfl rfl) 0 rfl rfl rfl ?_;intro cp M;refine qa (am _ _ (wrl (sdm A λA=>?_)));refine sdo (v:=iV (((i+1:Nat):Int))) A (qb rfl rfl (fun w=>(zq (jk (by omega) (by omega)) w).trans (by rw[show(((i:Nat):Int)+1:Int)=((i+1:Nat):Int)from by omega]))) λA=>?_;refine sda A λA=>?_;refine qa ?_;replace M:Mg w0 cp (.obj g2 (.cells (p1.d.cells p1.ts.length).toArray 30)::.obj gw (.cells #[pA gw 0,bp,bV pl] 182)::.row BY 1 (bp) ((((bs++[40])++(acc++([]++wrT pl p0.tr)))).length) ((Lib.byteCells (((bs++[40])++(acc++([]++wrT pl p0.tr))))))::T):=by
     have h9:=M;simp only[f4,gh,f8]at h9 ⊢;exact h9
    refine aj _ _ _ (by omega) ⟨i+1,p1,acc++([]++wrT pl p0.tr),bp,rfl,⟨rp1_,(jf gp).2.2 _ mp1,fun h=>by omega,fun _=>by simp only[fv,fw,fx]; omega,by simp only[fv,fw,fx]; omega,by omega,by rw[←ae,f7 (show ¬i+1=0 by omega),gj ac',htl,List.drop_zero]; simp only[f4,gq,f8,List.drop_succ_cons,List.drop_zero]⟩,A.keep _ (by repeat' constructor),M⟩
   ·have ac':=fy ac;refine sct A ec (jsb (.inr rfl) (toW (X:=[.obj g2 (.cells (p.d.cells p.ts.length).toArray 30)]) M) (.cons (by decide) hT) (i:=((i:Nat):Int)) (by omega) (by first|omega|(simp only[fv,fw,fx]; omega)|(simp only[fv,fw,fx,ByteArray.size,gg,Array.size]; omega))) ?_;rintro _ _ ⟨rfl,_,br⟩;replace M:=(zi (X:=[.obj g2 (.cells (p.d.cells p.ts.length).toArray 30)]) br);refine⟨_,rfl,?_⟩;intro a A;refine qwk ap fun _ bw=>?_;have l2p:=(jf gp).1.h8 aa';obtain⟨p0,bp0,op0,ip0,mp0,rp0_,lp0,Hp0⟩:=qeh hp_ (i:=0) (by omega);obtain⟨p1,bp1,op1,ip1,mp1,rp1_,lp1,Hp1⟩:=qeh hp_ (i:=1) (by omega);have hbp:=qki l2p ip0 ip1;have hw9:=(qfi pl p0.tr ((jf gp).2.2 _ mp0)).1;have htl:=qpj (pl:=pl) aa' l2p ip0 ip1;refine wrl (sdm A λA=>?_);refine sdf A 10 TwJ_fld_30_5 λA=>?_;refine sdl A M TwJ_is1_28 0 λA=>?_;refine sdo (v:=pA bp0 (op0+0*11)) A (qk (k:=0) f9 (by kernel_rfl) rfl rfl rfl lp0 (by omega)) λA=>?_;refine sdo A (zp M Hp0 TwJ_isS_30 rfl rfl) λA=>?_;refine sct A ec (ih (.inr rfl) (toW (X:=[.obj g2 (.cells (p.d.cells p.ts.length).toArray 30)]) M) (.cons (by decide) hT) (t:=p0) (by skip; omega) rp0_ ((jf gp).2.2 _ mp0) hz htp (by skip; omega) (by simp only[fv,fw,fx]; omega)) ?_;rintro _ _ ⟨rfl,bz,cc⟩
    replace M:=(zi (X:=[.obj g2 (.cells (p.d.cells p.ts.length).toArray 30)]) cc);refine⟨_,rfl,?_⟩;intro a A;refine qa (bw _ _ (wrl (sdf A 10 TwJ_fld_30_5 λA=>?_)));refine sdl A M TwJ_is1_28 0 λA=>?_;refine sdo (v:=pA bp1 (op1+1*11)) A (qk (k:=1) f9 (by kernel_rfl) rfl rfl rfl lp1 (by omega)) λA=>?_;refine sdo A (zp M Hp1 TwJ_isS_30 rfl rfl) λA=>?_;refine qt A M rfl rfl (qj rfl rfl rfl (by kernel_rfl) M 0 rfl rfl rfl) 0 rfl rfl rfl ?_;intro cq M;refine qa (am _ _ (wrl (sdm A λA=>?_)));refine sdo (v:=iV (((i+1:Nat):Int))) A (qb rfl rfl (fun w=>(zq (jk (by omega) (by omega)) w).trans (by rw[show(((i:Nat):Int)+1:Int)=((i+1:Nat):Int)from by omega]))) λA=>?_;refine sda A λA=>?_;refine qa ?_;replace M:Mg w0 cq (.obj g2 (.cells (p1.d.cells p1.ts.length).toArray 30)::.obj gw (.cells #[pA gw 0,bz,bV pl] 182)::.row BY 1 (bz) ((((bs++[40])++(acc++([32]++wrT pl p0.tr)))).length) ((Lib.byteCells (((bs++[40])++(acc++([32]++wrT pl p0.tr))))))::T):=by
     have h9:=M;simp only[f4,gh,f8]at h9 ⊢;exact h9
    refine aj _ _ _ (by omega) ⟨i+1,p1,acc++([32]++wrT pl p0.tr),bz,rfl,⟨rp1_,(jf gp).2.2 _ mp1,fun h=>by omega,fun _=>by simp only[fv,fw,fx]; omega,by simp only[fv,fw,fx]; omega,by omega,by rw[←ae,f7 (show ¬i+1=0 by omega),f7 ac',htl,List.drop_zero]; simp only[f4,gq,f8,List.drop_succ_cons,List.drop_zero]⟩,A.keep _ (by repeat' constructor),M⟩
  ·have aa':=f6 aa;refine sdc A qe aa λA=>?_;refine qcf ak A ?_;refine wp_exit (bg _ _ (wsk fun _ aq=>wsk fun _ ar=>?_));have cl:i≠0:=fun e=>aa' (by rw[hpt e]; exact h8);have _:=hlen (by omega);have hw8:=(qfi pl p.tr gp).1;refine wrl (sdf A 0 TwJ_fld_30_0 λA=>?_);refine sdl A M TwJ_is1_3 0 λA=>?_;rcases tf ((p.d.k != 1))with ab|ab
   ·have ab':=iy.1 ab;refine sdc A zh ab λA=>?_;refine qct ar A ?_;refine wsr fun _ cd=>sdm A λA=>?_;refine sdn A λA=>?_;refine sdf A 0 TwJ_fld_182_0 λA=>?_;refine sct A ec (jo (.inr rfl) (toW (X:=[.obj g2 (.cells (p.d.cells p.ts.length).toArray 30)]) M) (s:=⟨#[32,46,32]⟩) (by first|omega|(simp only[fv,fw,fx]; omega)|(simp only[fv,fw,fx,ByteArray.size,gg,Array.size]; omega))) ?_;rintro _ _ ⟨rfl,_,ce⟩;replace M:=(zi (X:=[.obj g2 (.cells (p.d.cells p.ts.length).toArray 30)]) ce);refine⟨_,rfl,?_⟩;intro a A;refine qa (cd _ _ (wrl (sdm A λA=>?_)));refine sdo A (qz M TwJ_isS_30 rfl 0 rfl (cs:=[iV p.d.k,iV p.d.n,bV p.d.y.q.b1,.slice p.d.y.o1 p.d.y.q.t1.length p.d.y.c1,.slice p.d.y.o2 p.d.y.q.q1.length p.d.y.c2,bV p.d.y.q.b2,.slice p.d.y.o3 p.d.y.q.t2.length p.d.y.c3,.slice p.d.y.o4 p.d.y.q.q2.length p.d.y.c4,.string p.d.s,.slice p.d.ro p.d.rl.length p.d.rc,.slice p.d.lo p.ts.length p.d.lc]) rfl rfl) λA=>?_;refine sct A ec (ih (.inr rfl) (toW (X:=[.obj g2 (.cells (p.d.cells p.ts.length).toArray 30)]) M) (.cons (by decide) hT) (t:=p) (by skip; omega) hp_ gp hz htp (by skip; omega) (by simp only[fv,fw,fx]; omega)) ?_;rintro _ _ ⟨rfl,_,cg⟩
    replace M:=(zi (X:=[.obj g2 (.cells (p.d.cells p.ts.length).toArray 30)]) cg);refine⟨_,rfl,?_⟩;intro a A;refine qa (aq _ _ (wrl (sdm A λA=>?_)));refine sdn A λA=>?_;refine sdf A 0 TwJ_fld_182_0 λA=>?_;refine sct A ec (zx (.inr rfl) (toW (X:=[.obj g2 (.cells (p.d.cells p.ts.length).toArray 30)]) M) (.cons (by decide) hT) (b:=41) (by first|omega|(simp only[fv,fw,fx]; omega)|(simp only[fv,fw,fx,ByteArray.size,gg,Array.size]; omega))) ?_;rintro _ _ ⟨rfl,cr,ch⟩;replace M:=(zi (X:=[.obj g2 (.cells (p.d.cells p.ts.length).toArray 30)]) ch);refine⟨_,rfl,?_⟩;intro a A;refine qa (hnorm _ _ (jq (v:=.tuple #[]) A rfl .nil rfl ?_));refine⟨rfl,cr,?_⟩;have ah:=M.sub (L':=_::_::T) (cN (cC (cC (.refl _))));rw[show wrT pl t.tr=([40])++(acc++(([32,46,32])++((wrT pl p.tr)++([41]))))from(by rw[zna h8 l2t iq0 iq1 ag,←hbody,←ae,f7 cl,List.drop_zero,jtg aa' ab']; simp only[f4,gh,gq,f8])];simpa only[f4,gh,gq,f8]using ah
   ·have ab':=ie.1 ab;refine sdc A zh ab λA=>?_;refine qcf ar A ?_;refine wp_skip (aq _ _ (wrl (sdm A λA=>?_)));refine sdn A λA=>?_;refine sdf A 0 TwJ_fld_182_0 λA=>?_;refine sct A ec (zx (.inr rfl) (toW (X:=[.obj g2 (.cells (p.d.cells p.ts.length).toArray 30)]) M) (.cons (by decide) hT) (b:=41) (by first|omega|(simp only[fv,fw,fx]; omega)|(simp only[fv,fw,fx,ByteArray.size,gg,Array.size]; omega))) ?_;rintro _ _ ⟨rfl,cw,ci⟩;replace M:=(zi (X:=[.obj g2 (.cells (p.d.cells p.ts.length).toArray 30)]) ci);refine⟨_,rfl,?_⟩;intro a A;refine qa (hnorm _ _ (jq (v:=.tuple #[]) A rfl .nil rfl ?_));refine⟨rfl,cw,?_⟩;have ah:=M.sub (L':=_::_::T) (cN (cC (cC (.refl _))));rw[show wrT pl t.tr=([40])++(acc++([41]))from(by rw[zna h8 l2t iq0 iq1 ag,←hbody,←ae,f7 cl,List.drop_zero,jtf ab']; simp only[f4,gh,gq,f8])];simpa only[f4,gh,gq,f8]using ah
theorem ztj{n:Nat}(ih:Writes n):Writes (n+1):=by
 intro w0 w gw p v pl bs T t hp ce hT hn ht gt hz htp hmax hroom;have _:=(jf gt).1.h0;have _:=(jf gt).1.h1;have hn9:=jle (jf gt).1;have hbp9:=zca (t:=t);have hbw9:=zcb (t:=t);have hsl:=zm t.d.s;have M:Mg w0 w (.obj gw (.cells #[p,v,bV pl] 182)::.row BY 1 (v) bs.length ((Lib.byteCells bs))::T):=ce;refine wof Tryz.func146 Tryz.ntmps146 fun Q hret hnorm hP a A=>?_;refine wsr fun _ cg=>zj (vs:=[iV t.d.k,iV t.d.n,bV t.d.y.q.b1,.slice t.d.y.o1 t.d.y.q.t1.length t.d.y.c1,.slice t.d.y.o2 t.d.y.q.q1.length t.d.y.c2,bV t.d.y.q.b2,.slice t.d.y.o3 t.d.y.q.t2.length t.d.y.c3,.slice t.d.y.o4 t.d.y.q.q2.length t.d.y.c4,.string t.d.s,.slice t.d.ro t.d.rl.length t.d.rc,.slice t.d.lo t.ts.length t.d.lc]) (t:=30) A M rfl rfl rfl pg (qx rfl rfl) (by decide) ?_;intro g2 _ M a A;refine qa (cg _ _ (wsr fun K4 ch=>sdf A 0 TwJ_fld_30_0 λA=>?_));refine sdl A M TwJ_is1_3 0 λA=>?_;refine qa (ch _ _ (wp_block (wsr fun _ cd=>?_)));rcases tf ((t.d.k==1))with ap|ap
 ·have ap':=gr ap;refine sdc A qe ap λA=>?_;refine sda A λA=>?_;refine qct cd A ?_;refine wrl (sdm A λA=>?_);refine sdn A λA=>?_;refine sdf A 0 TwJ_fld_182_0 λA=>?_;refine sct A ec (jo hp (toW (X:=[.obj g2 (.cells (t.d.cells t.ts.length).toArray 30)]) M) (s:=⟨#[40,41]⟩) (by first|omega|(simp only[fv,fw,fx]; omega)|(simp only[fv,fw,fx,ByteArray.size,gg,Array.size]; omega))) ?_;rintro _ _ ⟨rfl,v7,aa⟩;replace M:=(zi (X:=[.obj g2 (.cells (t.d.cells t.ts.length).toArray 30)]) aa);refine⟨_,rfl,?_⟩;intro a A;refine qa (hnorm _ _ (jq (v:=.tuple #[]) A rfl .nil rfl ?_));refine⟨rfl,v7,?_⟩;have aa:=M.sub (L':=_::_::T) (cN (cC (cC (.refl _))));rw[show wrT pl t.tr=([40,41])from(by
   rw[qbc,f7 (by omega),f7 (by omega)];unfold vd;repeat (first|rw[gj (by omega)]|rw[f7 (by omega)])
   try rfl
   try simp only[beq_iff_eq])]
  simpa only[f4,gh,gq,f8]using aa
 ·have ap':=f6 ap;refine sdc A qe ap λA=>?_;refine sda A λA=>?_;refine qcf cd A ?_;refine wsr fun _ aq=>?_;rcases tf ((t.d.k==2))with ab|ab
  ·have ab':=gr ab;refine sdc A qe ab λA=>?_;refine sda A λA=>?_;refine qct aq A ?_;refine wrl (sdm A λA=>?_);refine sdf A 1 TwJ_fld_30_1 λA=>?_;refine sdl A M TwJ_is1_3 0 λA=>?_;rcases tf ((t.d.n==1))with ac|ac
   ·have ac':=gr ac;refine sdc A qe ac λA=>?_;refine sct A ec (zhd hp (toW (X:=[.obj g2 (.cells (t.d.cells t.ts.length).toArray 30)]) M) (.cons (by decide) hT) (b:=true) (by omega)) ?_;rintro _ _ ⟨rfl,ci,bf⟩;replace M:=(zi (X:=[.obj g2 (.cells (t.d.cells t.ts.length).toArray 30)]) bf);refine⟨_,rfl,?_⟩;intro a A;refine qa (hnorm _ _ (jq (v:=.tuple #[]) A rfl .nil rfl ?_));refine⟨rfl,ci,?_⟩;have aa:=M.sub (L':=_::_::T) (cN (cC (cC (.refl _))));rw[show wrT pl t.tr=(if true=true then[35,116]else[35,102])from(by
     rw[qbc,f7 (by omega),f7 (by omega)];unfold vd;repeat (first|rw[gj (by omega)]|rw[f7 (by omega)])
     try rfl
     try simp only[beq_iff_eq])]
    simpa only[f4,gh,gq,f8]using aa
   ·have ac':=f6 ac;refine sdc A qe ac λA=>?_;refine sct A ec (zhd hp (toW (X:=[.obj g2 (.cells (t.d.cells t.ts.length).toArray 30)]) M) (.cons (by decide) hT) (b:=false) (by omega)) ?_;rintro _ _ ⟨rfl,cj,bg⟩;replace M:=(zi (X:=[.obj g2 (.cells (t.d.cells t.ts.length).toArray 30)]) bg);refine⟨_,rfl,?_⟩;intro a A;refine qa (hnorm _ _ (jq (v:=.tuple #[]) A rfl .nil rfl ?_));refine⟨rfl,cj,?_⟩;have aa:=M.sub (L':=_::_::T) (cN (cC (cC (.refl _))));rw[show wrT pl t.tr=(if false=true then[35,116]else[35,102])from(by
     rw[qbc,f7 (by omega),f7 (by omega)];unfold vd;repeat (first|rw[gj (by omega)]|rw[f7 (by omega)])
     try rfl
     try simp only[beq_iff_eq])]
    simpa only[f4,gh,gq,f8]using aa
  ·have ab':=f6 ab;refine sdc A qe ab λA=>?_;refine sda A λA=>?_;refine qcf aq A ?_;refine wsr fun _ ar=>?_;rcases tf ((t.d.k==3))with ae|ae
   ·have ae':=gr ae;refine sdc A qe ae λA=>?_;refine sda A λA=>?_;refine qct ar A ?_;refine wrl (sdm A λA=>?_);refine sdf A 2 TwJ_fld_30_2 λA=>?_;refine sdo A (qz M TwJ_isS_26 rfl 0 rfl (cs:=[bV t.d.y.q.b1,.slice t.d.y.o1 t.d.y.q.t1.length t.d.y.c1,.slice t.d.y.o2 t.d.y.q.q1.length t.d.y.c2,bV t.d.y.q.b2,.slice t.d.y.o3 t.d.y.q.t2.length t.d.y.c3,.slice t.d.y.o4 t.d.y.q.q2.length t.d.y.c4]) rfl rfl) λA=>?_;refine sct A ec (xmg hp (toW (X:=[.obj g2 (.cells (t.d.cells t.ts.length).toArray 30)]) M) (.cons (by decide) hT) (y:=t.d.y) (Dt.okT ht).1.num (Dt.okT ht).1.len ((jf gt).1.h3 (by omega)) (by have:=ztd ((jf gt).2.1 (by omega)); omega)) ?_;rintro _ _ ⟨rfl,ck,bh⟩;replace M:=(zi (X:=[.obj g2 (.cells (t.d.cells t.ts.length).toArray 30)]) bh);refine⟨_,rfl,?_⟩;intro a A;refine qa (hnorm _ _ (jq (v:=.tuple #[]) A rfl .nil rfl ?_));refine⟨rfl,ck,?_⟩;have aa:=M.sub (L':=_::_::T) (cN (cC (cC (.refl _))));rw[show wrT pl t.tr=(jv 10 t.d.y.q)from(by
     rw[qbc,f7 (by omega),f7 (by omega)];unfold vd;repeat (first|rw[gj (by omega)]|rw[f7 (by omega)])
     try rfl
     try simp only[beq_iff_eq])]
    simpa only[f4,gh,gq,f8]using aa
   ·have ae':=f6 ae;refine sdc A qe ae λA=>?_;refine sda A λA=>?_;refine qcf ar A ?_;refine wsr fun _ au=>?_;rcases tf ((t.d.k==4))with af|af
    ·have af':=gr af;refine sdc A qe af λA=>?_;refine sda A λA=>?_;refine qct au A ?_;refine wrl (sdm A λA=>?_);refine sdf A 1 TwJ_fld_30_1 λA=>?_;refine sdl A M TwJ_is1_3 0 λA=>?_;refine sdo (v:=.int .i32 (((t.d.n.toNat:Nat):Int))) A (zk rfl (ar_conv i8 iz ((in_i32 (by omega) (by omega)).trans (by omega)))) λA=>?_;refine sct A ec (xla hp (toW (X:=[.obj g2 (.cells (t.d.cells t.ts.length).toArray 30)]) M) (.cons (by decide) hT) (n:=t.d.n.toNat) (jag ((jf gt).1.h4 (by omega)) hn9.1) hz (by omega)) ?_;rintro _ _ ⟨rfl,cl,bi⟩;replace M:=(zi (X:=[.obj g2 (.cells (t.d.cells t.ts.length).toArray 30)]) bi);refine⟨_,rfl,?_⟩;intro a A;refine qa (hnorm _ _ (jq (v:=.tuple #[]) A rfl .nil rfl ?_));refine⟨rfl,cl,?_⟩;have aa:=M.sub (L':=_::_::T) (cN (cC (cC (.refl _))));rw[show wrT pl t.tr=(qad pl ((t.d.n.toNat:Nat):Int))from(by
      rw[Int.toNat_of_nonneg hn9.1];rw[qbc,f7 (by omega),f7 (by omega)];unfold vd;repeat (first|rw[gj (by omega)]|rw[f7 (by omega)])
      try rfl
      try simp only[beq_iff_eq])]
     simpa only[f4,gh,gq,f8]using aa
    ·have af':=f6 af;refine sdc A qe af λA=>?_;refine sda A λA=>?_;refine qcf au A ?_;refine wsr fun _ av=>?_;rcases tf ((t.d.k==5))with ag|ag
     ·have ag':=gr ag;refine sdc A qe ag λA=>?_;refine sda A λA=>?_;refine qct av A ?_;refine wrl (sdm A λA=>?_);refine sdf A 8 TwJ_fld_30_3 λA=>?_;refine sdl A M TwJ_is1_9 0 λA=>?_;refine sct A ec (xlb hp (toW (X:=[.obj g2 (.cells (t.d.cells t.ts.length).toArray 30)]) M) (.cons (by decide) hT) (s:=t.d.s) (by omega) hz (by omega)) ?_;rintro _ _ ⟨rfl,cm,bj⟩;replace M:=(zi (X:=[.obj g2 (.cells (t.d.cells t.ts.length).toArray 30)]) bj);refine⟨_,rfl,?_⟩;intro a A;refine qa (hnorm _ _ (jq (v:=.tuple #[]) A rfl .nil rfl ?_));refine⟨rfl,cm,?_⟩;have aa:=M.sub (L':=_::_::T) (cN (cC (cC (.refl _))));rw[show wrT pl t.tr=(qlc pl t.d.s)from(by
       rw[qbc,f7 (by omega),f7 (by omega)];unfold vd;repeat (first|rw[gj (by omega)]|rw[f7 (by omega)])
       try rfl
       try simp only[beq_iff_eq])]
      simpa only[f4,gh,gq,f8]using aa
     ·have ag':=f6 ag;refine sdc A qe ag λA=>?_;refine sda A λA=>?_;refine qcf av A ?_;refine wsr fun _ aw=>?_;rcases tf ((t.d.k==6))with ah|ah
      ·have ah':=gr ah;refine sdc A qe ah λA=>?_;refine sda A λA=>?_;refine qct aw A ?_;refine wrl (sdm A λA=>?_);refine sdf A 8 TwJ_fld_30_3 λA=>?_;refine sdl A M TwJ_is1_9 0 λA=>?_;refine sct A ec (xme hp (toW (X:=[.obj g2 (.cells (t.d.cells t.ts.length).toArray 30)]) M) (.cons (by decide) hT) (s:=t.d.s) (by omega) hz (by omega)) ?_;rintro _ _ ⟨rfl,cn,bn⟩;replace M:=(zi (X:=[.obj g2 (.cells (t.d.cells t.ts.length).toArray 30)]) bn);refine⟨_,rfl,?_⟩;intro a A;refine qa (hnorm _ _ (jq (v:=.tuple #[]) A rfl .nil rfl ?_));refine⟨rfl,cn,?_⟩;have aa:=M.sub (L':=_::_::T) (cN (cC (cC (.refl _))));rw[show wrT pl t.tr=(qaj pl t.d.s)from(by
        rw[qbc,f7 (by omega),f7 (by omega)];unfold vd;repeat (first|rw[gj (by omega)]|rw[f7 (by omega)])
        try rfl
        try simp only[beq_iff_eq])]
       simpa only[f4,gh,gq,f8]using aa
      ·have ah':=f6 ah;refine sdc A qe ah λA=>?_;refine sda A λA=>?_;refine qcf aw A ?_;refine wsr fun _ ax=>?_;rcases tf ((t.d.k==7))with ai|ai
       ·have ai':=gr ai;refine sdc A qe ai λA=>?_;refine sda A λA=>?_;refine qct ax A ?_;refine wrl (sdm A λA=>?_);refine sdf A 9 TwJ_fld_30_4 λA=>?_;refine sdl A M TwJ_is1_27 0 λA=>?_;refine sct A ec (xii hp (toW (X:=[.obj g2 (.cells (t.d.cells t.ts.length).toArray 30)]) M) (.cons (by decide) hT) (l:=t.d.rl) (Dt.okT ht).1.raw (by omega) htp (by omega)) ?_;rintro _ _ ⟨rfl,co,bp⟩;replace M:=(zi (X:=[.obj g2 (.cells (t.d.cells t.ts.length).toArray 30)]) bp);refine⟨_,rfl,?_⟩;intro a A;refine qa (hnorm _ _ (jq (v:=.tuple #[]) A rfl .nil rfl ?_));refine⟨rfl,co,?_⟩;have aa:=M.sub (L':=_::_::T) (cN (cC (cC (.refl _))));rw[show wrT pl t.tr=(zmf t.d.rl)from(by
         rw[qbc,f7 (by omega),f7 (by omega)];unfold vd;repeat (first|rw[gj (by omega)]|rw[f7 (by omega)])
         try rfl
         try simp only[beq_iff_eq])]
        simpa only[f4,gh,gq,f8]using aa
       ·have ai':=f6 ai;refine sdc A qe ai λA=>?_;refine sda A λA=>?_;refine qcf ax A ?_;refine wsr fun _ ay=>?_;rcases tf ((t.d.k==8))with aj|aj
        ·have aj':=gr aj;refine sdc A qe aj λA=>?_;refine sda A λA=>?_;refine qct ay A ?_;refine wrl (sdm A λA=>?_);refine sdo A (qz M TwJ_isS_30 rfl 0 rfl (cs:=[iV t.d.k,iV t.d.n,bV t.d.y.q.b1,.slice t.d.y.o1 t.d.y.q.t1.length t.d.y.c1,.slice t.d.y.o2 t.d.y.q.q1.length t.d.y.c2,bV t.d.y.q.b2,.slice t.d.y.o3 t.d.y.q.t2.length t.d.y.c3,.slice t.d.y.o4 t.d.y.q.q2.length t.d.y.c4,.string t.d.s,.slice t.d.ro t.d.rl.length t.d.rc,.slice t.d.lo t.ts.length t.d.lc]) rfl rfl) λA=>?_;refine sct A ec (xld hp (toW (X:=[.obj g2 (.cells (t.d.cells t.ts.length).toArray 30)]) M) (.cons (by decide) hT) ih (t:=t) ht gt (by omega) hz htp hmax (by omega) hroom) ?_;rintro _ _ ⟨rfl,cp,bq⟩;replace M:=(zi (X:=[.obj g2 (.cells (t.d.cells t.ts.length).toArray 30)]) bq);refine⟨_,rfl,?_⟩;intro a A;refine qa (hnorm _ _ (jq (v:=.tuple #[]) A rfl .nil rfl ?_));refine⟨rfl,cp,?_⟩;have aa:=M.sub (L':=_::_::T) (cN (cC (cC (.refl _))));simpa only[f4,gh,gq,f8]using aa
        ·have aj':=f6 aj;refine sdc A qe aj λA=>?_;refine sda A λA=>?_;refine qcf ay A ?_;refine wsr fun _ az=>?_;rcases tf ((t.d.k==9))with ak|ak
         ·have ak':=gr ak;refine sdc A qe ak λA=>?_;refine sda A λA=>?_;refine qct az A ?_;refine wrl (sdm A λA=>?_);refine sdf A 10 TwJ_fld_30_5 λA=>?_;refine sdl A M TwJ_is1_28 0 λA=>?_;refine sct A ec (xmf hp (toW (X:=[.obj g2 (.cells (t.d.cells t.ts.length).toArray 30)]) M) (.cons (by decide) hT) ih (t:=t) ht gt (by omega) hz htp hmax hroom) ?_;rintro _ _ ⟨rfl,cq,br⟩;replace M:=(zi (X:=[.obj g2 (.cells (t.d.cells t.ts.length).toArray 30)]) br);refine⟨_,rfl,?_⟩;intro a A;refine qa (hnorm _ _ (jq (v:=.tuple #[]) A rfl .nil rfl ?_));refine⟨rfl,cq,?_⟩;have aa:=M.sub (L':=_::_::T) (cN (cC (cC (.refl _))));rw[show wrT pl t.tr=([35,40]++wrL pl true (t.ts.map Dt.tr)++[41])from(by rw[qbc,f7 (by omega),gj (by omega)])];simpa only[f4,gh,gq,f8]using aa
         ·have ak':=f6 ak;refine sdc A qe ak λA=>?_;refine sda A λA=>?_;refine qcf az A ?_;refine wsr fun _ bd=>?_;rcases tf ((t.d.k==10))with am|am
          ·have am':=gr am;refine sdc A qe am λA=>?_;refine sda A λA=>?_;refine qct bd A ?_;refine wrl (sdm A λA=>?_);refine sdn A λA=>?_;refine sdf A 0 TwJ_fld_182_0 λA=>?_;refine sct A ec (jo hp (toW (X:=[.obj g2 (.cells (t.d.cells t.ts.length).toArray 30)]) M) (s:=⟨#[35,60,118,111,105,100,62]⟩) (by first|omega|(simp only[fv,fw,fx]; omega)|(simp only[fv,fw,fx,ByteArray.size,gg,Array.size]; omega))) ?_;rintro _ _ ⟨rfl,cr,bw⟩;replace M:=(zi (X:=[.obj g2 (.cells (t.d.cells t.ts.length).toArray 30)]) bw);refine⟨_,rfl,?_⟩;intro a A;refine qa (hnorm _ _ (jq (v:=.tuple #[]) A rfl .nil rfl ?_));refine⟨rfl,cr,?_⟩;have aa:=M.sub (L':=_::_::T) (cN (cC (cC (.refl _))));rw[show wrT pl t.tr=([35,60,118,111,105,100,62])from(by
            rw[qbc,f7 (by omega),f7 (by omega)];unfold vd;repeat (first|rw[gj (by omega)]|rw[f7 (by omega)])
            try rfl
            try simp only[beq_iff_eq])]
           simpa only[f4,gh,gq,f8]using aa
          ·have am':=f6 am;refine sdc A qe am λA=>?_;refine sda A λA=>?_;refine qcf bd A ?_;refine wsr fun _ bz=>sdo (v:=bV true) A (qb rfl rfl (fun w=>(qe w).trans (by rw[show((t.d.k==11))=true from(beq_iff_eq.2 (by omega))]))) λA=>?_;refine sda A λA=>?_;refine qct bz A ?_;refine wrl (sdm A λA=>?_);refine sdf A 8 TwJ_fld_30_3 λA=>?_;refine sdl A M TwJ_is1_9 0 λA=>?_;refine sct A ec (xic hp (toW (X:=[.obj g2 (.cells (t.d.cells t.ts.length).toArray 30)]) M) (.cons (by decide) hT) (s:=t.d.s) (by simp only[fv,fw,fx]; omega)) ?_;rintro _ _ ⟨rfl,cw,cc⟩;replace M:=(zi (X:=[.obj g2 (.cells (t.d.cells t.ts.length).toArray 30)]) cc);refine⟨_,rfl,?_⟩;intro a A;refine qa (hnorm _ _ (jq (v:=.tuple #[]) A rfl .nil rfl ?_));refine⟨rfl,cw,?_⟩;have aa:=M.sub (L':=_::_::T) (cN (cC (cC (.refl _))));rw[show wrT pl t.tr=([35,60]++t.d.s.data.toList++[62])from(by
            rw[qbc,f7 (by omega),f7 (by omega)];unfold vd;repeat (first|rw[gj (by omega)]|rw[f7 (by omega)])
            try rfl
            try simp only[beq_iff_eq])]
           simpa only[f4,gh,gq,f8]using aa
theorem zcc: ∀n,Writes n
 | 0 => fun _ _ _ h => absurd h (j4 _)
 | n + 1 => ztj (zcc n)
theorem znc(W:World)(q:Option Addr):(Builtin.unsafeString_ #[124,3] 9 #[.pointer q,iV 0]).run Tryz.prog W=.ok (.string .empty) W:=Lib.run_unsafeString_none W _ _ _ q
theorem xda{w:World}{B gw:Nat}{p q:Value}(hbk:w.heap[gw]?=some (.cells #[p,.slice none 0 0,q] 182 (0,0))):Calls Tryz.prog 39 #[pA gw 0] w fun e w'=>e=.returned (.string ⟨#[]⟩)∧Below B w w':=by
 have mixed:Tryz.prog.follows .mixedOrders=true:=by kernel_rfl
 have c1:w.drew.cell? ⟨gw,1,none⟩=some (.slice none 0 0):=by
  have:w.drew.heap[gw]?=some (.cells #[p,.slice none 0 0,q] 182 (0,0)):=hbk;rw[Lib.cell_of_heap this]; rfl
 have hSD:(Builtin.unsafeSliceData_ #[27] 124 #[.slice none 0 0]).run Tryz.prog w.drew=.ok (.pointer none) w.drew:=rfl;have hUS:=znc
 go_enter Tryz.func39,Tryz.ntmps39
 go_wp2
 go_region_o
 all_goals (go_wp2; go_ret; exact⟨rfl,Below.drew (Below.refl B w)⟩)
theorem jud{w:World}{B gw g cap:Nat}{p q:Value}(hc0:cap≠0)(hbk:w.heap[gw]?=some (.cells #[p,.slice (aO g) 0 cap,q] 182 (0,0))):Calls Tryz.prog 39 #[pA gw 0] w fun e w'=>e=.returned (.string ⟨#[]⟩)∧Below B w w':=by
 have mixed:Tryz.prog.follows .mixedOrders=true:=by kernel_rfl
 have c1:w.drew.cell? ⟨gw,1,none⟩=some (.slice (aO g) 0 cap):=by
  have:w.drew.heap[gw]?=some (.cells #[p,.slice (aO g) 0 cap,q] 182 (0,0)):=hbk;rw[Lib.cell_of_heap this]; rfl
 have hSD:(Builtin.unsafeSliceData_ #[27] 124 #[.slice (aO g) 0 cap]).run Tryz.prog w.drew=.ok (pA g 0) w.drew:=
  Lib.run_unsafeSliceData_row _ _ _ _ _ _ hc0
 clear hc0;have hUS:=znc
 go_enter Tryz.func39,Tryz.ntmps39
 go_wp2
 go_region_o
 all_goals (go_wp2; go_ret; exact⟨rfl,Below.drew (Below.refl B w)⟩)
theorem jah{w:World}{B gw g:Nat}{p q:Value}{cur:Array Value}(hBw:B≤w.heap.size)(hbk:w.heap[gw]?=some (.cells #[p,.slice (aO g) 0 0,q] 182 (0,0)))(hg:w.heap[g]?=some (.cells cur 5 (0,0))):Calls Tryz.prog 39 #[pA gw 0] w fun e w'=>e=.returned (.string ⟨#[]⟩)∧Below B w w':=by
 have mixed:Tryz.prog.follows .mixedOrders=true:=by kernel_rfl
 have hlt:gw<w.heap.size:=by
  rcases Nat.lt_or_ge gw w.heap.size with h'|h'
  ·exact h'
  ·simp[Array.getElem?_eq_none h']at hbk
 have c1:w.drew.cell? ⟨gw,1,none⟩=some (.slice (aO g) 0 0):=by
  have:w.drew.heap[gw]?=some (.cells #[p,.slice (aO g) 0 0,q] 182 (0,0)):=hbk;rw[Lib.cell_of_heap this]; rfl
 have hSD:(Builtin.unsafeSliceData_ #[27] 124 #[.slice (aO g) 0 0]).run Tryz.prog w.drew=.ok (pA w.drew.heap.size 0) (w.drew.alloc (.view ⟨g,0,none⟩ 5)):=
  Lib.run_unsafeSliceData_zero w.drew _ _ 5 Tryz.underlying124 ⟨g,0,none⟩ 0 (5,cur.size) (by have hg':w.drew.heap[g]?=some (.cells cur 5 (0,0)):=hg; simp[World.shape?,hg'])
 have c2:(w.drew.alloc (.view ⟨g,0,none⟩ 5)).cell? ⟨gw,1,none⟩=some (.slice (aO g) 0 0):=by
  have:(w.drew.alloc (.view ⟨g,0,none⟩ 5)).heap[gw]?=_:=(Lib.alloc_old w.drew _ gw hlt).trans hbk;rw[Lib.cell_of_heap this]; rfl
 have c3:(w.alloc (.view ⟨g,0,none⟩ 5)).drew.cell? ⟨gw,1,none⟩=some (.slice (aO g) 0 0):=c2;have c0:w.cell? ⟨gw,1,none⟩=some (.slice (aO g) 0 0):=c1;have hUS:=znc
 go_enter Tryz.func39,Tryz.ntmps39
 go_wp2
 go_region_o
 all_goals (go_wp2; go_ret; exact⟨rfl,(Below.drew (Below.refl B w)).alloc hBw _⟩)
theorem jkc{w0 w:World}{gw:Nat}{p v:Value}{pl:Bool}{bs:List UInt8}{T:List Ck}(M:Mg w0 w (.obj gw (.cells #[p,v,bV pl] 182)::.row BY 1 v bs.length (Lib.byteCells bs)::T))(hmax:bs.length≤9223372036854775807):Calls Tryz.prog 39 #[pA gw 0] w fun e w'=>e=.returned (.string ⟨bs.toArray⟩)∧Below w0.heap.size w w':=by
 have hown:=M.has 1 rfl;have hb:=M.obj 0 rfl;rcases hown.2 with⟨rfl,hz⟩|⟨g,cap,cur,rfl,hbg,hg,hnc,hcm,hcs,htake⟩
 ·have h0:bs=[]:=List.eq_nil_of_length_eq_zero hz;subst h0;exact xda hb
 ·by_cases h0:bs=[]
  ·subst h0;by_cases aa:cap=0
   ·subst aa;exact jah M.bel.size hb hg
   ·exact jud aa hb
  ·exact xaa h0 hb hg hnc hmax hbg (fun j x hx=>by
    have h9:=hown.cells (g:=g) rfl j (.int .u8 x.toNat) (by simp[Lib.byteCells,hx]);rw[jt,Nat.zero_add]at h9;exact h9) (by simp at hcs; omega)
def wrA(pl:Bool)(t:Tr):List UInt8×Int:=if qs qh t=true then(wrT pl t,0)else([],2)
theorem qjg{pl:Bool}{t:Tr}(h:qs qh t=true):wrA pl t=(wrT pl t,0):=gj h
theorem jue{pl:Bool}{t:Tr}(h:qs qh t=false):wrA pl t=([],2):=f7 (by rw[h]; decide)
theorem zhe{w:World}{t:Dt}(ht:t.rd w)(hTb:Tabs8 w)(hz:C.Tz16 w)(htp:C.Tp10 w)(hmax:t.tr.bulk≤1048576)(pl:Bool):Calls Tryz.prog 105 #[.agg (t.d.cells t.ts.length).toArray,bV pl] w (RB w (.tuple #[.string ⟨(wrA pl t.tr).1.toArray⟩,iV (wrA pl t.tr).2])):=by
 have M:=Mg.start w;refine wof Tryz.func105 Tryz.ntmps105 fun Q hret hnorm hP a A=>?_;refine wsr fun _ ag=>zj (vs:=[iV t.d.k,iV t.d.n,bV t.d.y.q.b1,.slice t.d.y.o1 t.d.y.q.t1.length t.d.y.c1,.slice t.d.y.o2 t.d.y.q.q1.length t.d.y.c2,bV t.d.y.q.b2,.slice t.d.y.o3 t.d.y.q.t2.length t.d.y.c3,.slice t.d.y.o4 t.d.y.q.q2.length t.d.y.c4,.string t.d.s,.slice t.d.ro t.d.rl.length t.d.rc,.slice t.d.lo t.ts.length t.d.lc]) (t:=30) A M rfl rfl rfl pg (qx rfl rfl) (by decide) ?_;intro g2 _ M a A;iterate 2 refine sda A λA=>?_
 refine qa (ag _ _ (wsk fun K4 ah=>wsr fun _ af=>sdo A (qz M zv rfl 0 rfl (cs:=[iV t.d.k,iV t.d.n,bV t.d.y.q.b1,.slice t.d.y.o1 t.d.y.q.t1.length t.d.y.c1,.slice t.d.y.o2 t.d.y.q.q1.length t.d.y.c2,bV t.d.y.q.b2,.slice t.d.y.o3 t.d.y.q.t2.length t.d.y.c3,.slice t.d.y.o4 t.d.y.q.q2.length t.d.y.c4,.string t.d.s,.slice t.d.ro t.d.rl.length t.d.rc,.slice t.d.lo t.ts.length t.d.lc]) rfl rfl) λA=>?_));rcases tf (qs qh t.tr)with aa|aa
 ·refine gcl A M ec ((aa▸sound_any (t:=t) (Dt.keep M.bel _ ht) (hTb.below M.bel))) fun _ _ M a A=>?_;refine sdu A λA=>?_;refine qcf af A ?_;refine wp_skip (ah _ _ (wsr fun _ ai=>sdm A λA=>?_));refine sdo (v:=.agg #[.pointer none,.slice none 0 0,bV pl]) A (qn rfl (fun w=>by kernel_rfl)) λA=>?_;refine zj (vs:=[.pointer none,.slice none 0 0,bV false]) (t:=182) A M rfl rfl rfl pg (qm (z:=.agg #[.pointer none,.slice none 0 0,bV false]) (by kernel_rfl) rfl) (by decide) ?_;intro g10 _ M a A;refine qt A M rfl rfl (qj rfl rfl rfl (by kernel_rfl) M 0 rfl rfl rfl) 0 rfl rfl rfl ?_;intro _ M;refine qwk ai fun _ ab=>?_;have hMn:=Mg.addNil M (qi (by simp) (qi (by simp) (za zd)));obtain⟨gw,hgw⟩:∃x,x=g10:=⟨_,rfl⟩;rw[←hgw]at A hMn;replace M:=hMn.perm (.swap _ _ _);refine wrl (sdo A (qz M zv rfl 2 rfl (cs:=[iV t.d.k,iV t.d.n,bV t.d.y.q.b1,.slice t.d.y.o1 t.d.y.q.t1.length t.d.y.c1,.slice t.d.y.o2 t.d.y.q.q1.length t.d.y.c2,bV t.d.y.q.b2,.slice t.d.y.o3 t.d.y.q.t2.length t.d.y.c3,.slice t.d.y.o4 t.d.y.q.q2.length t.d.y.c4,.string t.d.s,.slice t.d.ro t.d.rl.length t.d.rc,.slice t.d.lo t.ts.length t.d.lc]) rfl rfl) λA=>?_);refine sct A ec (zcc (t.tr.bulk+1) (bs:=[]) (T:=[.obj g2 (.cells (t.d.cells t.ts.length).toArray 30)]) (.inl rfl) M (.cons (by decide) .nil) (Nat.lt_succ_self _) ht (qvc ht aa) hz htp hmax (by rw[fx]; omega)) ?_;rintro _ _ ⟨rfl,_,aj⟩;replace M:=aj;refine⟨_,rfl,?_⟩;intro a A;refine qa (ab _ _ (wsr fun _ ac=>sdf A 0 jyi λA=>?_))
  refine sct A ec (jkc (bs:=[]++wrT pl t.tr) M (by have:=(qfi pl t.tr (qvc ht aa)).1; rw[f8]; omega)) ?_;rintro _ ak ⟨rfl,hbs⟩;replace M:Mg w ak ([]):=⟨M.bel.trans hbs,by simp,.nil⟩;refine⟨_,rfl,?_⟩;intro a A;iterate 2 refine sda A λA=>?_
  refine qa (ac _ _ (wp_ret (hret _ _ (en2 A rfl (qf rfl) (qf rfl) ?_))));exact⟨by rw[qjg aa]<;>rfl,M.bel⟩
 ·refine gcl A M ec ((aa▸sound_any (t:=t) (Dt.keep M.bel _ ht) (hTb.below M.bel))) fun _ _ M a A=>?_;refine sdu A λA=>?_;refine qct af A ?_;refine wsr fun _ ae=>?_;iterate 2 refine sda A λA=>?_
  refine qa (ae _ _ (wp_ret (hret _ _ (en2 A rfl (qf rfl) (qf rfl) ?_))));exact⟨by rw[jue aa]<;>rfl,M.bel⟩
theorem jkd{w:World}{t:Dt}(ht:t.rd w)(hTb:Tabs8 w)(hz:C.Tz16 w)(htp:C.Tp10 w)(hmax:t.tr.bulk≤1048576):Calls Tryz.prog 73 #[.agg (t.d.cells t.ts.length).toArray] w (RB w (.tuple #[.string ⟨(wrA false t.tr).1.toArray⟩,iV (wrA false t.tr).2])):=by
 have M:=Mg.start w;refine wof Tryz.func73 Tryz.ntmps73 fun Q hret hnorm hP a A=>?_;refine wsr fun _ aa=>zj (vs:=[iV t.d.k,iV t.d.n,bV t.d.y.q.b1,.slice t.d.y.o1 t.d.y.q.t1.length t.d.y.c1,.slice t.d.y.o2 t.d.y.q.q1.length t.d.y.c2,bV t.d.y.q.b2,.slice t.d.y.o3 t.d.y.q.t2.length t.d.y.c3,.slice t.d.y.o4 t.d.y.q.q2.length t.d.y.c4,.string t.d.s,.slice t.d.ro t.d.rl.length t.d.rc,.slice t.d.lo t.ts.length t.d.lc]) (t:=30) A M rfl rfl rfl pg (qx rfl rfl) (by decide) ?_;intro g2 _ M a A;iterate 2 refine sda A λA=>?_
 refine qa (aa _ _ (wsr fun K4 ab=>sdo A (qz M zv rfl 0 rfl (cs:=[iV t.d.k,iV t.d.n,bV t.d.y.q.b1,.slice t.d.y.o1 t.d.y.q.t1.length t.d.y.c1,.slice t.d.y.o2 t.d.y.q.q1.length t.d.y.c2,bV t.d.y.q.b2,.slice t.d.y.o3 t.d.y.q.t2.length t.d.y.c3,.slice t.d.y.o4 t.d.y.q.q2.length t.d.y.c4,.string t.d.s,.slice t.d.ro t.d.rl.length t.d.rc,.slice t.d.lo t.ts.length t.d.lc]) rfl rfl) λA=>?_));refine gcl A M ec (zhe (Dt.keep M.bel _ ht) (hTb.below M.bel) (vq hz M.bel) (htp.below M.bel) hmax false) fun _ hbt M a A=>?_;iterate 2 refine sde A λA=>?_
 iterate 2 refine sda A λA=>?_
 refine qa (ab _ _ (wp_ret (hret _ _ (en2 A rfl (qf rfl) (qf rfl) ?_))));exact⟨rfl,M.bel⟩
theorem quc{w:World}{t:Dt}(ht:t.rd w)(hTb:Tabs8 w)(hz:C.Tz16 w)(htp:C.Tp10 w)(hmax:t.tr.bulk≤1048576):Calls Tryz.prog 71 #[.agg (t.d.cells t.ts.length).toArray] w (RB w (.tuple #[.string ⟨(wrA true t.tr).1.toArray⟩,iV (wrA true t.tr).2])):=by
 have M:=Mg.start w;refine wof Tryz.func71 Tryz.ntmps71 fun Q hret hnorm hP a A=>?_;refine wsr fun _ aa=>zj (vs:=[iV t.d.k,iV t.d.n,bV t.d.y.q.b1,.slice t.d.y.o1 t.d.y.q.t1.length t.d.y.c1,.slice t.d.y.o2 t.d.y.q.q1.length t.d.y.c2,bV t.d.y.q.b2,.slice t.d.y.o3 t.d.y.q.t2.length t.d.y.c3,.slice t.d.y.o4 t.d.y.q.q2.length t.d.y.c4,.string t.d.s,.slice t.d.ro t.d.rl.length t.d.rc,.slice t.d.lo t.ts.length t.d.lc]) (t:=30) A M rfl rfl rfl pg (qx rfl rfl) (by decide) ?_;intro g2 _ M a A;iterate 2 refine sda A λA=>?_
 refine qa (aa _ _ (wsr fun K4 ab=>sdo A (qz M zv rfl 0 rfl (cs:=[iV t.d.k,iV t.d.n,bV t.d.y.q.b1,.slice t.d.y.o1 t.d.y.q.t1.length t.d.y.c1,.slice t.d.y.o2 t.d.y.q.q1.length t.d.y.c2,bV t.d.y.q.b2,.slice t.d.y.o3 t.d.y.q.t2.length t.d.y.c3,.slice t.d.y.o4 t.d.y.q.q2.length t.d.y.c4,.string t.d.s,.slice t.d.ro t.d.rl.length t.d.rc,.slice t.d.lo t.ts.length t.d.lc]) rfl rfl) λA=>?_));refine gcl A M ec (zhe (Dt.keep M.bel _ ht) (hTb.below M.bel) (vq hz M.bel) (htp.below M.bel) hmax true) fun _ hbt M a A=>?_;iterate 2 refine sde A λA=>?_
 iterate 2 refine sda A λA=>?_
 refine qa (ab _ _ (wp_ret (hret _ _ (en2 A rfl (qf rfl) (qf rfl) ?_))));exact⟨rfl,M.bel⟩
open Go.RowKit Go.Lib
def xle: List ByteArray:=[⟨#[110,117,108]⟩,⟨#[97,108,97,114,109]⟩,⟨#[98,97,99,107,115,112,97,99,101]⟩,⟨#[116,97,98]⟩,⟨#[108,105,110,101,102,101,101,100]⟩,⟨#[110,101,119,108,105,110,101]⟩,⟨#[118,116,97,98]⟩,⟨#[112,97,103,101]⟩,⟨#[114,101,116,117,114,110]⟩,⟨#[101,115,99]⟩,⟨#[115,112,97,99,101]⟩,⟨#[100,101,108,101,116,101]⟩]
def xlf: List Int:=[0,7,8,9,10,10,11,12,13,27,32,127]
def xlg: List ByteArray:=[⟨#[110,117,108]⟩,⟨#[97,108,97,114,109]⟩,⟨#[98,97,99,107,115,112,97,99,101]⟩,⟨#[116,97,98]⟩,⟨#[110,101,119,108,105,110,101]⟩,⟨#[118,116,97,98]⟩,⟨#[112,97,103,101]⟩,⟨#[114,101,116,117,114,110]⟩,⟨#[101,115,99]⟩,⟨#[115,112,97,99,101]⟩,⟨#[100,101,108,101,116,101]⟩]
def nmA(i:Nat):ByteArray:=xle.getD i ⟨#[]⟩
def nuA(i:Nat):Int:=xlf.getD i 0
def nmB(i:Nat):ByteArray:=xlg.getD i ⟨#[]⟩
def nmC: List Value:=xle.map .string
def nuC: List Value:=xlf.map (.int .i64)
def nmD: List Value:=xlg.map .string
def qlg(s:ByteArray):Nat→Nat→Int
  | 0, _ => -1
  | f + 1, i => if nmA i = s then nuA i else qlg s f (i + 1)
def qed(s:ByteArray):Int:=qlg s 12 0
theorem juf{s:ByteArray}{i:Nat}(hi:i<12)(h:nmA i=s):qlg s (12-i) i=nuA i:=by
  obtain⟨f,hf⟩:∃f,12-i=f+1:=⟨11-i,by omega⟩;rw[hf,qlg,gj h]
theorem xdb{s:ByteArray}{i:Nat}(hi:i<12)(h:nmA i≠s):qlg s (12-i) i=qlg s (12-(i+1)) (i+1):=by
  obtain⟨f,hf⟩:∃f,12-i=f+1:=⟨11-i,by omega⟩;rw[hf,qlg,f7 h,show 12-(i+1)=f by omega]
theorem jug{s:ByteArray}{i:Nat}(hi:¬i<12):qlg s (12-i) i=-1:=by rw[show 12-i=0 by omega,qlg]
theorem xij{i:Nat}(h:i<12):nmC[0+i]?=some (.string (nmA i)):=by
  rw[Nat.zero_add]
  match i,h with
  | 0, _|1, _|2, _|3, _|4, _|5, _|6, _|7, _|8, _|9, _|10, _|11, _ => rfl
  | n + 12, h => omega
theorem xja{i:Nat}(h:i<12):nuC[0+i]?=some (.int .i64 (nuA i)):=by
  rw[Nat.zero_add]
  match i,h with
  | 0, _|1, _|2, _|3, _|4, _|5, _|6, _|7, _|8, _|9, _|10, _|11, _ => rfl
  | n + 12, h => omega
theorem xjb{i:Nat}(h:i<11):nmD[0+i]?=some (.string (nmB i)):=by
  rw[Nat.zero_add]
  match i,h with
  | 0, _|1, _|2, _|3, _|4, _|5, _|6, _|7, _|8, _|9, _|10, _ => rfl
  | n + 11, h => omega
theorem juh: ∀i:Fin 11,C.nameL (qed (nmB i.val))=nmB i.val:=by decide +kernel
theorem jke: ∀i:Fin 11,qed (nmB i.val)=[0,7,8,9,10,11,12,13,27,32,127].getD i.val 0:=by decide +kernel
theorem jkf{n:Int}(h:∀j,j<11→qed (nmB j)≠n):C.nameL n=⟨#[]⟩:=by
  have k:∀i:Fin 11,[0,7,8,9,10,11,12,13,27,32,127].getD i.val 0≠n:=fun i=>by rw[←jke i]; exact h i.val i.isLt
  have k0:(0:Int)≠n:=k 0;have k1:(7:Int)≠n:=k 1;have k2:(8:Int)≠n:=k 2;have k3:(9:Int)≠n:=k 3;have k4:(10:Int)≠n:=k 4;have k5:(11:Int)≠n:=k 5;have k6:(12:Int)≠n:=k 6;have k7:(13:Int)≠n:=k 7;have k8:(27:Int)≠n:=k 8;have k9:(32:Int)≠n:=k 9;have k10:(127:Int)≠n:=k 10;unfold C.nameL;rw[f7 (Ne.symm k0),f7 (Ne.symm k1),f7 (Ne.symm k2),f7 (Ne.symm k3),f7 (Ne.symm k4),f7 (Ne.symm k5),f7 (Ne.symm k6),f7 (Ne.symm k7),f7 (Ne.symm k8),f7 (Ne.symm k9),f7 (Ne.symm k10)]
theorem qde(x:ByteArray):(⟨x.data.toList.toArray⟩:ByteArray)=x:=by cases x; simp
theorem qsg{P:Program}{s d:TypeId}{k:IntKind}{n:Nat}(hs:P.underlying s=some (.int k))(hd:P.underlying d=some .string)(h:C.OkR ((n:Nat):Int)):∀w,(convert s d (.int k ((n:Nat):Int))).run P w=.ok (.string ⟨(encodeRune ((n:Nat):Int)).toArray⟩) w:=fun w=>by
  rw[run_convert_int_string w s d k _ (by rw[hs]; rfl) hd];have hv:ValidR ((n:Nat):Int):=by unfold C.OkR at h; unfold ValidR; omega
  have e:=qde (Utf8.encode ((n:Nat):Int));rw[encode_valid _ hv]at e;rw[e]
theorem zua{P:Program}{t:TypeId}{x y:Operand}{a:List UInt8}{s:ByteArray}(hm:a.length+s.size≤9223372036854775807):∀w,(do eqGuard .add t x y (.string (bsL a)) (.string s); binOp .add t (.string (bsL a)) (.string s):Sem Value).run P w=.ok (.string (bsL (a++s.data.toList))) w:=by
  have h:=ql (P:=P) (t:=t) (x:=x) (y:=y) (a:=a) (b:=s.data.toList) (by rw[zm]; exact hm)
  rwa [show bsL s.data.toList=s from qde s]at h
theorem jkg{w:World}{s:ByteArray}:Calls Tryz.prog 205 #[.string s] w (RB w (iV (qed s))):=by
 have M:=Mg.start w;refine wof Tryz.func205 Tryz.ntmps205 fun Q hret hnorm hP a A=>?_;refine wsr fun _ ap=>sda A λA=>?_;refine qa (ap _ _ (wsr fun _ aq=>jr (e:=9) (sz:=1) (m:=12) (vs:=[.string (⟨#[110,117,108]⟩),.string (⟨#[97,108,97,114,109]⟩),.string (⟨#[98,97,99,107,115,112,97,99,101]⟩),.string (⟨#[116,97,98]⟩),.string (⟨#[108,105,110,101,102,101,101,100]⟩),.string (⟨#[110,101,119,108,105,110,101]⟩),.string (⟨#[118,116,97,98]⟩),.string (⟨#[112,97,103,101]⟩),.string (⟨#[114,101,116,117,114,110]⟩),.string (⟨#[101,115,99]⟩),.string (⟨#[115,112,97,99,101]⟩),.string (⟨#[100,101,108,101,116,101]⟩)]) A M rfl rfl rfl (qg rfl (by kernel_rfl)) rfl rfl (.inl (by decide)) ?_));intro g3 _ M a A;refine sda A λA=>?_;refine qa (aq _ _ (wsr fun _ ar=>jr (e:=3) (sz:=1) (m:=12) (vs:=[iV 0,iV 7,iV 8,iV 9,iV 10,iV 10,iV 11,iV 12,iV 13,iV 27,iV 32,iV 127]) A M rfl rfl rfl (qg rfl (by kernel_rfl)) rfl rfl (.inl (by decide)) ?_));intro g6 _ M a A;refine sda A λA=>?_;refine qwk ar fun _ au=>wsr fun _ av=>sda A λA=>?_
 refine qa (av _ _ (wp_block (zg (fun m_ a w1=>∃(i:Nat),m_=1+(12-i)∧(i≤12∧qed s=qlg s (12-i) i)∧Sl a 24 [(0,.string s),(3,.slice (aO g3) 12 12),(4,.slice (aO g6) 12 12),(5,iV (((i:Nat):Int))),(6,.slice (aO g3) 12 12),(7,.slice (aO g6) 12 12)]∧Mg w w1 (.row 3 1 (.slice (aO g6) 12 12) 12 ([iV 0,iV 7,iV 8,iV 9,iV 10,iV 10,iV 11,iV 12,iV 13,iV 27,iV 32,iV 127])::.row 9 1 (.slice (aO g3) 12 12) 12 ([.string (⟨#[110,117,108]⟩),.string (⟨#[97,108,97,114,109]⟩),.string (⟨#[98,97,99,107,115,112,97,99,101]⟩),.string (⟨#[116,97,98]⟩),.string (⟨#[108,105,110,101,102,101,101,100]⟩),.string (⟨#[110,101,119,108,105,110,101]⟩),.string (⟨#[118,116,97,98]⟩),.string (⟨#[112,97,103,101]⟩),.string (⟨#[114,101,116,117,114,110]⟩),.string (⟨#[101,115,99]⟩),.string (⟨#[115,112,97,99,101]⟩),.string (⟨#[100,101,108,101,116,101]⟩)])::[])) _ ⟨0,rfl,⟨ii _,rfl⟩,A.keep _ (by repeat' constructor),M⟩ ?_)));clear M A;rintro m_ a _ ⟨i,rfl,ac,A,M⟩ _ ah;obtain⟨_,ae⟩:=ac;refine wsk fun _ ai=>wsr fun _ af=>?_;iterate 2 refine sdm A λA=>?_
 refine sdo A (qr lw rfl) λA=>?_;rcases tf (decide (((i:Nat):Int)<12))with ab|ab
 ·have ab':=f5 ab;refine sdc A qy ab λA=>?_;refine qct af A ?_;refine wp_skip (ai _ _ (wsk fun _ aj=>wp_block (wsr fun _ ag=>?_)));iterate 2 refine sdm A λA=>?_
  refine sdo (v:=pA g3 (0+i)) A (ja (k:=i) lw (by kernel_rfl) rfl rfl rfl rfl (by omega)) λA=>?_;refine sdo A (qog M 1 rfl (xij (by omega)) o99 rfl) λA=>?_;refine sdm A λA=>?_;rcases tf (decide (nmA i=s))with aa|aa
  ·have aa':=f5 aa;refine sdo (v:=bV true) A (qb rfl rfl (fun w=>(je gi w).trans (by rw[aa]<;>rfl))) λA=>?_;refine qct ag A ?_;refine wsr fun _ ak=>?_;iterate 2 refine sdm A λA=>?_
   refine sdo (v:=pA g6 (0+i)) A (ja (k:=i) ln (by kernel_rfl) rfl rfl rfl rfl (by omega)) λA=>?_;refine sdo A (qog M 0 rfl (xja (by omega)) o93 rfl) λA=>?_;refine sda A λA=>?_;refine qr1 ak hret A ?_;exact⟨by rw[show qed s=nuA i from by rw[ae,juf (by omega) aa']],M.bel⟩
  ·have aa':=fy aa;refine sdo (v:=bV false) A (qb rfl rfl (fun w=>(je gi w).trans (by rw[aa]<;>rfl))) λA=>?_;refine qcf ag A ?_;refine wp_skip (aj _ _ (wrl (sdm A λA=>?_)));refine sdo (v:=iV (((i+1:Nat):Int))) A (qb rfl rfl (fun w=>(zq (jk (by omega) (by omega)) w).trans (by rw[show(((i:Nat):Int)+1:Int)=((i+1:Nat):Int)from by omega]))) λA=>?_;refine sda A λA=>?_;refine qa ?_;refine ah _ _ _ (by omega) ⟨i+1,rfl,⟨by omega,by rw[ae,xdb (by omega) aa']⟩,A.keep _ (by repeat' constructor),M⟩
 ·have ab':=fy ab;refine sdc A qy ab λA=>?_;refine qcf af A ?_;refine wp_exit (au _ _ (wsr fun _ am=>sda A λA=>?_));refine qr1 am hret A ?_;exact⟨by rw[show qed s=-1 from by rw[ae,jug (by omega)]],M.bel⟩
theorem zhf{w:World}{n:Int}:Calls Tryz.prog 152 #[iV n] w (RB w (.string (C.nameL n))):=by
 have M:=Mg.start w;refine wof Tryz.func152 Tryz.ntmps152 fun Q hret hnorm hP a A=>?_;refine wsr fun _ ap=>sda A λA=>?_;refine qa (ap _ _ (wsk fun _ aq=>wsr fun _ ar=>jr (e:=9) (sz:=1) (m:=11) (vs:=[.string (⟨#[110,117,108]⟩),.string (⟨#[97,108,97,114,109]⟩),.string (⟨#[98,97,99,107,115,112,97,99,101]⟩),.string (⟨#[116,97,98]⟩),.string (⟨#[110,101,119,108,105,110,101]⟩),.string (⟨#[118,116,97,98]⟩),.string (⟨#[112,97,103,101]⟩),.string (⟨#[114,101,116,117,114,110]⟩),.string (⟨#[101,115,99]⟩),.string (⟨#[115,112,97,99,101]⟩),.string (⟨#[100,101,108,101,116,101]⟩)]) A M rfl rfl rfl (qg rfl (by kernel_rfl)) rfl rfl (.inl (by decide)) ?_));intro g4 _ M a A;refine sdo A (qr lw rfl) λA=>?_;refine sdm A λA=>?_;refine qa (ar _ _ (wp_block (zg (fun m_ a w1=>∃(i:Nat),m_=1+(11-i)∧(i≤11∧∀j,j<i→qed (nmB j)≠n)∧Sl a 17 [(0,iV n),(5,.slice (aO g4) 11 11),(6,iV 11),(7,iV (((i:Nat):Int)))]∧Mg w w1 (.row 9 1 (.slice (aO g4) 11 11) 11 ([.string (⟨#[110,117,108]⟩),.string (⟨#[97,108,97,114,109]⟩),.string (⟨#[98,97,99,107,115,112,97,99,101]⟩),.string (⟨#[116,97,98]⟩),.string (⟨#[110,101,119,108,105,110,101]⟩),.string (⟨#[118,116,97,98]⟩),.string (⟨#[112,97,103,101]⟩),.string (⟨#[114,101,116,117,114,110]⟩),.string (⟨#[101,115,99]⟩),.string (⟨#[115,112,97,99,101]⟩),.string (⟨#[100,101,108,101,116,101]⟩)])::[])) _ ⟨0,rfl,⟨ii _,fun j hj=>absurd hj (j4 _)⟩,A.keep _ ⟨rfl,rfl,rfl,rfl,trivial⟩,M⟩ ?_)));clear M A;rintro m_ a _ ⟨i,rfl,ac,A,M⟩ _ au;obtain⟨_,ae⟩:=ac;refine wsr fun _ am=>?_;rcases tf (decide (((i:Nat):Int)<11))with ab|ab
 ·have ab':=f5 ab;refine sdc A qy ab λA=>?_;refine qa (am _ _ (wsk fun _ ag=>wp_cond_true (A.ev rfl) ?_));refine wp_skip (ag _ _ (wsk fun _ ah=>wp_block (wsr fun _ ai=>sdo (v:=pA g4 (0+i)) A (ja (k:=i) lw (by kernel_rfl) rfl rfl rfl rfl (by omega)) λA=>?_)));refine sdo A (qog M 0 rfl (xjb (by omega)) o99 rfl) λA=>?_;refine sda A λA=>?_;refine qwr ai fun _ af=>sdm A λA=>?_;refine gcl A M ec (jkg) fun _ _ M a A=>?_;refine sdm A λA=>?_;rcases tf ((qed (nmB i)==n))with aa|aa
  ·have aa':=gr aa;refine sdc A qe aa λA=>?_;refine qct af A ?_;refine wsr fun _ aj=>sdm A λA=>?_;refine sda A λA=>?_;refine qr1 aj hret A ?_;exact⟨by rw[←show qed (nmB i)=n from aa',juh ⟨i,by omega⟩],M.bel⟩
  ·have aa':=f6 aa;refine sdc A qe aa λA=>?_;refine qcf af A ?_;refine wp_skip (ah _ _ (wrl (sdo (v:=iV (((i+1:Nat):Int))) A (qb rfl rfl (fun w=>(zq (jk (by omega) (by omega)) w).trans (by rw[show(((i:Nat):Int)+1:Int)=((i+1:Nat):Int)from by omega]))) λA=>?_)));refine sdm A λA=>?_;refine qa ?_;refine au _ _ _ (by omega) ⟨i+1,rfl,⟨by omega,fun j hj=>by
    by_cases e:j=i
    ·rw[e]; exact aa'
    ·exact ae j (by omega)⟩,A.keep _ ⟨rfl,rfl,rfl,rfl,trivial⟩,M⟩
 ·have ab':=fy ab;refine sdc A qy ab λA=>?_;refine qa (am _ _ (wsk fun _ _=>wp_cond_false (A.ev rfl) ?_));refine wp_exit (aq _ _ (wsr fun _ ak=>sda A λA=>?_));refine qr1 ak hret A ?_;exact⟨by rw[jkf (fun j hj=>ae j (by omega))],M.bel⟩
theorem jkh{w:World}{n:Nat}(ho:C.OkR ((n:Nat):Int)):Calls Tryz.prog 109 #[iV ((n:Nat):Int)] w (RB w (.string ⟨(qad false ((n:Nat):Int)).toArray⟩)):=by
 have hn:=kp ho;have _:=qfg hn;have _:=qfh ((n:Nat):Int);have _:=qne ((n:Nat):Int);have hen4:=qbi ((n:Nat):Int);have hxd:=C.hexD_len n hn;have M:=Mg.start w;refine wof Tryz.func109 Tryz.ntmps109 fun Q hret hnorm hP a A=>?_;refine wsr fun _ ak=>sda A λA=>?_;refine qwr ak fun _ am=>sdm A λA=>?_;refine sdo (v:=.int .i32 (((n:Nat):Int))) A (zk rfl (ar_conv i8 iz (in_i32 (by omega) (by omega)))) λA=>?_;refine sda A λA=>?_;refine qwk am fun _ ap=>wsr fun K4 aj=>sdm A λA=>?_;refine gcl A M ec (zhf) fun _ _ M a A=>?_;rcases tf (decide (C.nameL ((n:Nat):Int)=⟨#[]⟩))with ab|ab
 ·have ab':=f5 ab;refine sdo (v:=bV false) A (qb rfl rfl (fun w=>(kx gi w).trans (by rw[ab]<;>rfl))) λA=>?_;refine qcf aj A ?_;refine wp_skip (ap _ _ (wsk fun _ aq=>wsr fun _ ae=>sdm A λA=>?_));rcases tf (C.ctlB ((n:Nat):Int))with aa|aa
  ·refine sct A ec ((aa▸C.rodd_any ((n:Nat):Int) _)) ?_;rintro _ _ ⟨rfl,hw11⟩;subst hw11;refine⟨_,rfl,?_⟩;intro a A;refine sdm A λA=>?_;iterate 2 refine sks A λA=>?_
   refine sdk (v:=bV true) A λA=>?_;refine qct ae A ?_;refine wsr fun _ af=>sdm A λA=>?_;refine gcl A M ec (C.rhex_any n (kp ho) _) fun _ _ M a A=>?_;refine sdo (v:=.string (⟨(([35,92,120])++(C.hexD n)).toArray⟩)) A (qb rfl rfl (ql (a:=[35,92,120]) (b:=C.hexD n) (by first|omega|(simp only[fv,fw,fx]; omega)))) λA=>?_;refine sda A λA=>?_;refine qr1 af hret A ?_;exact⟨by rw[show qad false ((n:Nat):Int)=([35,92,120])++(C.hexD n)from(zmh rfl ab' (by rw[aa]; simp)).trans (by first|rfl|(unfold jw; rw[Int.toNat_natCast]; rfl))],M.bel⟩
  ·refine sct A ec ((aa▸C.rodd_any ((n:Nat):Int) _)) ?_;rintro _ _ ⟨rfl,hw16⟩;subst hw16;refine⟨_,rfl,?_⟩;intro a A;iterate 2 refine sdm A λA=>?_
   rcases tf (C.blankB ((n:Nat):Int))with ac|ac
   ·refine sct A ec ((ac▸C.rblank_any ((n:Nat):Int) _)) ?_;rintro _ _ ⟨rfl,hw19⟩;subst hw19;refine⟨_,rfl,?_⟩;intro a A;refine sdk (v:=bV true) A λA=>?_;refine qct ae A ?_;refine wsr fun _ ag=>sdm A λA=>?_;refine gcl A M ec (C.rhex_any n (kp ho) _) fun _ _ M a A=>?_;refine sdo (v:=.string (⟨(([35,92,120])++(C.hexD n)).toArray⟩)) A (qb rfl rfl (ql (a:=[35,92,120]) (b:=C.hexD n) (by first|omega|(simp only[fv,fw,fx]; omega)))) λA=>?_;refine sda A λA=>?_;refine qr1 ag hret A ?_;exact⟨by rw[show qad false ((n:Nat):Int)=([35,92,120])++(C.hexD n)from(zmh rfl ab' (by rw[ac,aa]; rfl)).trans (by first|rfl|(unfold jw; rw[Int.toNat_natCast]; rfl))],M.bel⟩
   ·refine sct A ec ((ac▸C.rblank_any ((n:Nat):Int) _)) ?_;rintro _ _ ⟨rfl,hw24⟩;subst hw24;refine⟨_,rfl,?_⟩;intro a A;refine sdk (v:=bV false) A λA=>?_;refine qcf ae A ?_;refine wp_skip (aq _ _ (wsr fun _ ah=>sdm A λA=>?_));refine sdo (v:=.string (⟨(Lib.encodeRune (((n:Nat):Int))).toArray⟩)) A (zk rfl (qsg (n:=n) iz gi ho)) λA=>?_;refine sdo (v:=.string (⟨(([35,92])++(Lib.encodeRune (((n:Nat):Int)))).toArray⟩)) A (qb rfl rfl (ql (a:=[35,92]) (b:=Lib.encodeRune (((n:Nat):Int))) (by first|omega|(simp only[fv,fw,fx]; omega)))) λA=>?_;refine sda A λA=>?_;refine qr1 ah hret A ?_;exact⟨by rw[show qad false ((n:Nat):Int)=([35,92])++(Lib.encodeRune (((n:Nat):Int)))from(jsi rfl ab' (by rw[ac,aa]; rfl)).trans (by first|rfl|(unfold jw; rw[Int.toNat_natCast]; rfl))],M.bel⟩
 ·have ab':=fy ab;refine sdo (v:=bV true) A (qb rfl rfl (fun w=>(kx gi w).trans (by rw[ab]<;>rfl))) λA=>?_;refine qct aj A ?_;refine wsr fun _ ai=>sdm A λA=>?_;refine gcl A M ec (zhf) fun _ _ M a A=>?_;refine sdo (v:=.string (⟨(([35,92])++((C.nameL ((n:Nat):Int)).data.toList)).toArray⟩)) A (qb rfl rfl (zua (a:=[35,92]) (s:=C.nameL ((n:Nat):Int)) (by first|omega|(simp only[fv,fw,fx]; omega)))) λA=>?_;refine sda A λA=>?_;refine qr1 ai hret A ?_;exact⟨by rw[show qad false ((n:Nat):Int)=([35,92])++((C.nameL ((n:Nat):Int)).data.toList)from(jsh rfl ab').trans (by first|rfl|(unfold jw; rw[Int.toNat_natCast]; rfl))],M.bel⟩
theorem jui{w:World}{s:ByteArray}(hs:s.size≤2000000):Calls Tryz.prog 110 #[.string s] w (RB w (.string ⟨(qlc false s).toArray⟩)):=by
 have M:=Mg.start w;refine wof Tryz.func110 Tryz.ntmps110 fun Q hret hnorm hP a A=>?_;refine wsr fun _ cd=>sda A λA=>?_;refine qwr cd fun _ ce=>sda A λA=>?_;refine qwk ce fun _ cg=>wsr fun K4 ch=>sdm A λA=>?_;refine qui A M rfl gi rfl rfl rfl rfl ?_;intro g5 _ M a A;refine qa (ch _ _ (wp_block (zg (fun m_ a w1=>∃(p_:Nat) (acc:List UInt8),m_=1+(s.size-p_)∧(acc++(qdd s p_).flatMap C.strC=(ze s.data.toList).flatMap C.strC∧acc.length≤9*p_∧p_≤s.size)∧Sl a 79 [(0,.string s),(2,.string (⟨#[]⟩)),(3,.string (⟨([34]++acc).toArray⟩)),(6,.string s),(7,pA g5 0)]∧Mg w w1 (.obj g5 (.stringIter s p_)::[])) _ ⟨0,[],rfl,⟨by rw[f8,qea],ii _,ii _⟩,A.keep _ ⟨rfl,rfl,rfl,rfl,rfl,trivial⟩,M⟩ ?_)));clear M A;rintro m_ a _ ⟨p_,acc,rfl,ay,A,M⟩ _ av;obtain⟨ae,ha9,hp9⟩:=ay;refine wsr fun _ az=>?_;by_cases ac:p_<s.size
 ·obtain⟨aa,cq14,he15⟩:∃r q,Utf8.decode s p_=(r,q):=⟨_,_,rfl⟩;refine zie (L':=(.obj g5 (.stringIter s (p_+cq14))::[])) A M rfl rfl 0 rfl ac rfl rfl rfl he15 rfl ?_;intro _ M a A;refine sde A λA=>?_;refine qa (az _ _ (wsk fun _ br=>wp_cond_true (A.ev rfl) ?_));refine wp_skip (br _ _ (wp_block (wsk fun _ bw=>?_)));have _:=(qdg ac he15).2;have cc:=kp (ve he15);have hxd:=C.hexD_len aa cc;have hen4:=qbi ((aa:Nat):Int);have hs9:=zmi cc;refine wrl (sde A λA=>?_);refine sda A λA=>?_;refine qa (bw _ _ (wp_block (wsr fun _ bd=>sdm A λA=>?_)));rcases tf ((((aa:Nat):Int)==34))with af|af
  ·have af':=gr af;refine sdc A qe af λA=>?_;refine sda A λA=>?_;refine qct bd A ?_;refine wrl (sdm A λA=>?_);refine sdo (v:=.string (⟨(([34]++acc)++([92,34])).toArray⟩)) A (qb rfl rfl (ql (a:=[34]++acc) (b:=[92,34]) (by first|omega|(simp only[fv,fw,fx]; omega)))) λA=>?_;refine sda A λA=>?_;refine qa ?_;have ab:C.strC ((aa:Nat):Int)=([92,34]):=(by rw[show((aa:Nat):Int)=34 from af']; rfl);refine av _ _ _ (by omega) ⟨p_+cq14,acc++([92,34]),rfl,⟨by rw[←ae,jd ac he15,ij,ab,f4],by rw[←ab,fv]; omega,by omega⟩,A.keep _ ⟨rfl,rfl,rfl,rfl,rfl,trivial⟩,M⟩
  ·have af':=f6 af;refine sdc A qe af λA=>?_;refine sda A λA=>?_;refine qcf bd A ?_;refine wsr fun _ bf=>sdm A λA=>?_;rcases tf ((((aa:Nat):Int)==92))with ag|ag
   ·have ag':=gr ag;refine sdc A qe ag λA=>?_;refine sda A λA=>?_;refine qct bf A ?_;refine wrl (sdm A λA=>?_);refine sdo (v:=.string (⟨(([34]++acc)++([92,92])).toArray⟩)) A (qb rfl rfl (ql (a:=[34]++acc) (b:=[92,92]) (by first|omega|(simp only[fv,fw,fx]; omega)))) λA=>?_;refine sda A λA=>?_;refine qa ?_;have ab:C.strC ((aa:Nat):Int)=([92,92]):=(by rw[show((aa:Nat):Int)=92 from ag']; rfl);refine av _ _ _ (by omega) ⟨p_+cq14,acc++([92,92]),rfl,⟨by rw[←ae,jd ac he15,ij,ab,f4],by rw[←ab,fv]; omega,by omega⟩,A.keep _ ⟨rfl,rfl,rfl,rfl,rfl,trivial⟩,M⟩
   ·have ag':=f6 ag;refine sdc A qe ag λA=>?_;refine sda A λA=>?_;refine qcf bf A ?_;refine wsr fun _ bg=>sdm A λA=>?_;rcases tf ((((aa:Nat):Int)==7))with ah|ah
    ·have ah':=gr ah;refine sdc A qe ah λA=>?_;refine sda A λA=>?_;refine qct bg A ?_;refine wrl (sdm A λA=>?_);refine sdo (v:=.string (⟨(([34]++acc)++([92,97])).toArray⟩)) A (qb rfl rfl (ql (a:=[34]++acc) (b:=[92,97]) (by first|omega|(simp only[fv,fw,fx]; omega)))) λA=>?_;refine sda A λA=>?_;refine qa ?_;have ab:C.strC ((aa:Nat):Int)=([92,97]):=(by rw[show((aa:Nat):Int)=7 from ah']; rfl);refine av _ _ _ (by omega) ⟨p_+cq14,acc++([92,97]),rfl,⟨by rw[←ae,jd ac he15,ij,ab,f4],by rw[←ab,fv]; omega,by omega⟩,A.keep _ ⟨rfl,rfl,rfl,rfl,rfl,trivial⟩,M⟩
    ·have ah':=f6 ah;refine sdc A qe ah λA=>?_;refine sda A λA=>?_;refine qcf bg A ?_;refine wsr fun _ bh=>sdm A λA=>?_;rcases tf ((((aa:Nat):Int)==8))with ai|ai
     ·have ai':=gr ai;refine sdc A qe ai λA=>?_;refine sda A λA=>?_;refine qct bh A ?_;refine wrl (sdm A λA=>?_);refine sdo (v:=.string (⟨(([34]++acc)++([92,98])).toArray⟩)) A (qb rfl rfl (ql (a:=[34]++acc) (b:=[92,98]) (by first|omega|(simp only[fv,fw,fx]; omega)))) λA=>?_;refine sda A λA=>?_;refine qa ?_;have ab:C.strC ((aa:Nat):Int)=([92,98]):=(by rw[show((aa:Nat):Int)=8 from ai']; rfl);refine av _ _ _ (by omega) ⟨p_+cq14,acc++([92,98]),rfl,⟨by rw[←ae,jd ac he15,ij,ab,f4],by rw[←ab,fv]; omega,by omega⟩,A.keep _ ⟨rfl,rfl,rfl,rfl,rfl,trivial⟩,M⟩
     ·have ai':=f6 ai;refine sdc A qe ai λA=>?_;refine sda A λA=>?_;refine qcf bh A ?_;refine wsr fun _ bi=>sdm A λA=>?_;rcases tf ((((aa:Nat):Int)==9))with aj|aj
      ·have aj':=gr aj;refine sdc A qe aj λA=>?_;refine sda A λA=>?_;refine qct bi A ?_;refine wrl (sdm A λA=>?_);refine sdo (v:=.string (⟨(([34]++acc)++([92,116])).toArray⟩)) A (qb rfl rfl (ql (a:=[34]++acc) (b:=[92,116]) (by first|omega|(simp only[fv,fw,fx]; omega)))) λA=>?_;refine sda A λA=>?_;refine qa ?_;have ab:C.strC ((aa:Nat):Int)=([92,116]):=(by rw[show((aa:Nat):Int)=9 from aj']; rfl);refine av _ _ _ (by omega) ⟨p_+cq14,acc++([92,116]),rfl,⟨by rw[←ae,jd ac he15,ij,ab,f4],by rw[←ab,fv]; omega,by omega⟩,A.keep _ ⟨rfl,rfl,rfl,rfl,rfl,trivial⟩,M⟩
      ·have aj':=f6 aj;refine sdc A qe aj λA=>?_;refine sda A λA=>?_;refine qcf bi A ?_;refine wsr fun _ bj=>sdm A λA=>?_;rcases tf ((((aa:Nat):Int)==10))with ak|ak
       ·have ak':=gr ak;refine sdc A qe ak λA=>?_;refine sda A λA=>?_;refine qct bj A ?_;refine wrl (sdm A λA=>?_);refine sdo (v:=.string (⟨(([34]++acc)++([92,110])).toArray⟩)) A (qb rfl rfl (ql (a:=[34]++acc) (b:=[92,110]) (by first|omega|(simp only[fv,fw,fx]; omega)))) λA=>?_;refine sda A λA=>?_;refine qa ?_;have ab:C.strC ((aa:Nat):Int)=([92,110]):=(by rw[show((aa:Nat):Int)=10 from ak']; rfl);refine av _ _ _ (by omega) ⟨p_+cq14,acc++([92,110]),rfl,⟨by rw[←ae,jd ac he15,ij,ab,f4],by rw[←ab,fv]; omega,by omega⟩,A.keep _ ⟨rfl,rfl,rfl,rfl,rfl,trivial⟩,M⟩
       ·have ak':=f6 ak;refine sdc A qe ak λA=>?_;refine sda A λA=>?_;refine qcf bj A ?_;refine wsr fun _ bn=>sdm A λA=>?_;rcases tf ((((aa:Nat):Int)==11))with am|am
        ·have am':=gr am;refine sdc A qe am λA=>?_;refine sda A λA=>?_;refine qct bn A ?_;refine wrl (sdm A λA=>?_);refine sdo (v:=.string (⟨(([34]++acc)++([92,118])).toArray⟩)) A (qb rfl rfl (ql (a:=[34]++acc) (b:=[92,118]) (by first|omega|(simp only[fv,fw,fx]; omega)))) λA=>?_;refine sda A λA=>?_;refine qa ?_;have ab:C.strC ((aa:Nat):Int)=([92,118]):=(by rw[show((aa:Nat):Int)=11 from am']; rfl);refine av _ _ _ (by omega) ⟨p_+cq14,acc++([92,118]),rfl,⟨by rw[←ae,jd ac he15,ij,ab,f4],by rw[←ab,fv]; omega,by omega⟩,A.keep _ ⟨rfl,rfl,rfl,rfl,rfl,trivial⟩,M⟩
        ·have am':=f6 am;refine sdc A qe am λA=>?_;refine sda A λA=>?_;refine qcf bn A ?_;refine wsr fun _ bp=>sdm A λA=>?_;rcases tf ((((aa:Nat):Int)==12))with ap|ap
         ·have ap':=gr ap;refine sdc A qe ap λA=>?_;refine sda A λA=>?_;refine qct bp A ?_;refine wrl (sdm A λA=>?_);refine sdo (v:=.string (⟨(([34]++acc)++([92,102])).toArray⟩)) A (qb rfl rfl (ql (a:=[34]++acc) (b:=[92,102]) (by first|omega|(simp only[fv,fw,fx]; omega)))) λA=>?_;refine sda A λA=>?_;refine qa ?_;have ab:C.strC ((aa:Nat):Int)=([92,102]):=(by rw[show((aa:Nat):Int)=12 from ap']; rfl);refine av _ _ _ (by omega) ⟨p_+cq14,acc++([92,102]),rfl,⟨by rw[←ae,jd ac he15,ij,ab,f4],by rw[←ab,fv]; omega,by omega⟩,A.keep _ ⟨rfl,rfl,rfl,rfl,rfl,trivial⟩,M⟩
         ·have ap':=f6 ap;refine sdc A qe ap λA=>?_;refine sda A λA=>?_;refine qcf bp A ?_;refine wsr fun _ bq=>sdm A λA=>?_;rcases tf ((((aa:Nat):Int)==13))with aq|aq
          ·have aq':=gr aq;refine sdc A qe aq λA=>?_;refine sda A λA=>?_;refine qct bq A ?_;refine wrl (sdm A λA=>?_);refine sdo (v:=.string (⟨(([34]++acc)++([92,114])).toArray⟩)) A (qb rfl rfl (ql (a:=[34]++acc) (b:=[92,114]) (by first|omega|(simp only[fv,fw,fx]; omega)))) λA=>?_;refine sda A λA=>?_;refine qa ?_;have ab:C.strC ((aa:Nat):Int)=([92,114]):=(by rw[show((aa:Nat):Int)=13 from aq']; rfl);refine av _ _ _ (by omega) ⟨p_+cq14,acc++([92,114]),rfl,⟨by rw[←ae,jd ac he15,ij,ab,f4],by rw[←ab,fv]; omega,by omega⟩,A.keep _ ⟨rfl,rfl,rfl,rfl,rfl,trivial⟩,M⟩
          ·have aq':=f6 aq;refine sdc A qe aq λA=>?_;refine sda A λA=>?_;refine qcf bq A ?_;refine wsr fun _ ax=>sdm A λA=>?_;rcases tf (C.ctlB (((aa:Nat):Int)))with aw|aw
           ·refine sct A ec ((aw▸C.rodd_any (((aa:Nat):Int)) _)) ?_;rintro _ _ ⟨rfl,hw38⟩;subst hw38;refine⟨_,rfl,?_⟩;intro a A;refine sdm A λA=>?_;iterate 2 refine sks A λA=>?_
            refine sdk (v:=bV true) A λA=>?_;refine sdm A λA=>?_;iterate 2 refine sks A λA=>?_
            refine sdk (v:=bV true) A λA=>?_;refine sda A λA=>?_;refine qct ax A ?_;refine wrl ?_;iterate 2 refine sdm A λA=>?_
            refine gcl A M ec (C.rhex_any aa (kp (ve he15)) _) fun _ _ M a A=>?_;refine sdo (v:=.string (⟨(([92,120])++(C.hexD aa)).toArray⟩)) A (qb rfl rfl (ql (a:=[92,120]) (b:=C.hexD aa) (by first|omega|(simp only[fv,fw,fx]; omega)))) λA=>?_;refine sdo (v:=.string (⟨((([92,120])++(C.hexD aa))++([59])).toArray⟩)) A (qb rfl rfl (ql (a:=([92,120])++(C.hexD aa)) (b:=[59]) (by first|omega|(simp only[fv,fw,fx]; omega)))) λA=>?_;refine sdo (v:=.string (⟨(([34]++acc)++((([92,120])++(C.hexD aa))++([59]))).toArray⟩)) A (qb rfl rfl (ql (a:=[34]++acc) (b:=(([92,120])++(C.hexD aa))++([59])) (by first|omega|(simp only[fv,fw,fx]; omega)))) λA=>?_;refine sda A λA=>?_;refine qa ?_;have ab:C.strC ((aa:Nat):Int)=((([92,120])++(C.hexD aa))++([59])):=((kt (by omega) (by omega) (.inl aw)).trans (by rw[qae]));refine av _ _ _ (by omega) ⟨p_+cq14,acc++((([92,120])++(C.hexD aa))++([59])),rfl,⟨by rw[←ae,jd ac he15,ij,ab,f4],by rw[←ab,fv]; omega,by omega⟩,A.keep _ ⟨rfl,rfl,rfl,rfl,rfl,trivial⟩,M⟩
           ·refine sct A ec ((aw▸C.rodd_any (((aa:Nat):Int)) _)) ?_;rintro _ _ ⟨rfl,hw42⟩;subst hw42;refine⟨_,rfl,?_⟩;intro a A;iterate 2 refine sdm A λA=>?_
            rcases tf ((((aa:Nat):Int)==8232))with ar|ar
            ·have ar':=gr ar;refine sdc A qe ar λA=>?_;refine sdk (v:=bV true) A λA=>?_;refine sdm A λA=>?_;iterate 2 refine sks A λA=>?_
             refine sdk (v:=bV true) A λA=>?_;refine sda A λA=>?_;refine qct ax A ?_;refine wrl ?_;iterate 2 refine sdm A λA=>?_
             refine gcl A M ec (C.rhex_any aa (kp (ve he15)) _) fun _ _ M a A=>?_;refine sdo (v:=.string (⟨(([92,120])++(C.hexD aa)).toArray⟩)) A (qb rfl rfl (ql (a:=[92,120]) (b:=C.hexD aa) (by first|omega|(simp only[fv,fw,fx]; omega)))) λA=>?_;refine sdo (v:=.string (⟨((([92,120])++(C.hexD aa))++([59])).toArray⟩)) A (qb rfl rfl (ql (a:=([92,120])++(C.hexD aa)) (b:=[59]) (by first|omega|(simp only[fv,fw,fx]; omega)))) λA=>?_;refine sdo (v:=.string (⟨(([34]++acc)++((([92,120])++(C.hexD aa))++([59]))).toArray⟩)) A (qb rfl rfl (ql (a:=[34]++acc) (b:=(([92,120])++(C.hexD aa))++([59])) (by first|omega|(simp only[fv,fw,fx]; omega)))) λA=>?_;refine sda A λA=>?_;refine qa ?_;have ab:C.strC ((aa:Nat):Int)=((([92,120])++(C.hexD aa))++([59])):=((kt (by omega) (by omega) (.inr (by omega))).trans (by rw[qae]));refine av _ _ _ (by omega) ⟨p_+cq14,acc++((([92,120])++(C.hexD aa))++([59])),rfl,⟨by rw[←ae,jd ac he15,ij,ab,f4],by rw[←ab,fv]; omega,by omega⟩,A.keep _ ⟨rfl,rfl,rfl,rfl,rfl,trivial⟩,M⟩
            ·have ar':=f6 ar;refine sdc A qe ar λA=>?_;refine sdk (v:=bV false) A λA=>?_;iterate 2 refine sdm A λA=>?_
             rcases tf ((((aa:Nat):Int)==65279))with au|au
             ·have au':=gr au;refine sdc A qe au λA=>?_;refine sdk (v:=bV true) A λA=>?_;refine sda A λA=>?_;refine qct ax A ?_;refine wrl ?_;iterate 2 refine sdm A λA=>?_
              refine gcl A M ec (C.rhex_any aa (kp (ve he15)) _) fun _ _ M a A=>?_;refine sdo (v:=.string (⟨(([92,120])++(C.hexD aa)).toArray⟩)) A (qb rfl rfl (ql (a:=[92,120]) (b:=C.hexD aa) (by first|omega|(simp only[fv,fw,fx]; omega)))) λA=>?_;refine sdo (v:=.string (⟨((([92,120])++(C.hexD aa))++([59])).toArray⟩)) A (qb rfl rfl (ql (a:=([92,120])++(C.hexD aa)) (b:=[59]) (by first|omega|(simp only[fv,fw,fx]; omega)))) λA=>?_;refine sdo (v:=.string (⟨(([34]++acc)++((([92,120])++(C.hexD aa))++([59]))).toArray⟩)) A (qb rfl rfl (ql (a:=[34]++acc) (b:=(([92,120])++(C.hexD aa))++([59])) (by first|omega|(simp only[fv,fw,fx]; omega)))) λA=>?_;refine sda A λA=>?_;refine qa ?_;have ab:C.strC ((aa:Nat):Int)=((([92,120])++(C.hexD aa))++([59])):=((kt (by omega) (by omega) (.inr (by omega))).trans (by rw[qae]));refine av _ _ _ (by omega) ⟨p_+cq14,acc++((([92,120])++(C.hexD aa))++([59])),rfl,⟨by rw[←ae,jd ac he15,ij,ab,f4],by rw[←ab,fv]; omega,by omega⟩,A.keep _ ⟨rfl,rfl,rfl,rfl,rfl,trivial⟩,M⟩
             ·have au':=f6 au;refine sdc A qe au λA=>?_;refine sdk (v:=bV false) A λA=>?_;refine sda A λA=>?_;refine qcf ax A ?_;refine wrl ?_;iterate 2 refine sdm A λA=>?_
              refine sdo (v:=.string (⟨(Lib.encodeRune (((aa:Nat):Int))).toArray⟩)) A (zk rfl (qsg (n:=aa) iz gi (ve he15))) λA=>?_;refine sdo (v:=.string (⟨(([34]++acc)++(Lib.encodeRune (((aa:Nat):Int)))).toArray⟩)) A (qb rfl rfl (ql (a:=[34]++acc) (b:=Lib.encodeRune (((aa:Nat):Int))) (by first|omega|(simp only[fv,fw,fx]; omega)))) λA=>?_;refine sda A λA=>?_;refine qa ?_;have ab:C.strC ((aa:Nat):Int)=(Lib.encodeRune (((aa:Nat):Int))):=(qnd (by omega) (by omega) (fun k=>by rcases k with k|k; rw[aw]at k; cases k; omega));refine av _ _ _ (by omega) ⟨p_+cq14,acc++(Lib.encodeRune (((aa:Nat):Int))),rfl,⟨by rw[←ae,jd ac he15,ij,ab,f4],by rw[←ab,fv]; omega,by omega⟩,A.keep _ ⟨rfl,rfl,rfl,rfl,rfl,trivial⟩,M⟩
 ·refine zif A M rfl rfl 0 rfl ac rfl rfl rfl λa A=>?_;refine sde A λA=>?_;refine qa (az _ _ (wsk fun _ _=>wp_cond_false (A.ev rfl) ?_));refine wp_exit (cg _ _ (wsr fun _ bz=>sdm A λA=>?_));refine sdo (v:=.string (⟨(([34]++acc)++([34])).toArray⟩)) A (qb rfl rfl (ql (a:=[34]++acc) (b:=[34]) (by first|omega|(simp only[fv,fw,fx]; omega)))) λA=>?_;refine sda A λA=>?_;refine qr1 bz hret A ?_;exact⟨by rw[show qlc false s=([34]++acc)++([34])from(by unfold qlc; rw[f7 (by decide),←ae,qeb ac,List.flatMap_nil,gh])],M.bel⟩
theorem qud{l:List UInt8}(hl:l≠[]):ze l=((decodeL l).1:Int)::ze (l.drop (decodeL l).2):=by
  have hw:=vt l hl;unfold ze;obtain⟨m,hm⟩:∃m,l.length=m+1:=⟨l.length-1,by omega⟩;rw[hm]
  conv=>lhs; unfold xq
  rw[f7 hl,qje m (l.drop (decodeL l).2).length _ (by rw[il]; omega) (gm _)]
def qjh(rs:List Int):List Value:=rs.map fun r=>.int .i32 r
theorem kr{rs:List Int}{j:Nat}(h:j<rs.length):(qjh rs)[j]?=some (.int .i32 (rs.getD j 0)):=by
  unfold qjh;rw[List.getElem?_map,List.getElem?_eq_getElem h];simp[List.getD,List.getElem?_eq_getElem h]
theorem jai{l:List UInt8}(h:(decodeL l).1<128):(decodeL l).1=(l.getD 0 0).toNat∧(decodeL l).2≤1:=by
  rw[decodeL_N]at h ⊢;have k0:=(l.getD 0 0).toNat_lt;generalize (l.getD 0 0).toNat=b0 at *
  generalize (l.getD 1 0).toNat=b1 at *
  generalize (l.getD 2 0).toNat=b2 at *
  generalize (l.getD 3 0).toNat=b3 at *
  by_cases hb:b0<128
  · unfold decodeN;rw[gj hb];exact⟨rfl,gm _⟩
  · have key:128≤(decodeN l.length b0 b1 b2 b3).1:=by
      unfold decodeN;rw[f7 hb];repeat' split
      all_goals (simp only; omega)
    omega
theorem jaj{b:UInt8}{r:List UInt8}(h:b.toNat<128):decodeL (b::r)=(b.toNat,1):=by
  rw[decodeL_N];simp only[List.getD_cons_zero];unfold decodeN;rw[gj h]
theorem qsh{b:UInt8}{r:List UInt8}(h:b.toNat<128):ze (b::r)=((b.toNat:Nat):Int)::ze r:=by
  rw[qud (by simp),jaj h];rfl
theorem qdf{l:List UInt8}(h:hasPrefix l [45,62]=true):ze l=45::62::ze (l.drop 2):=by
  unfold hasPrefix at h
  match l,h with
  | [], h => simp [List.isPrefixOf] at h
  | [a], h => simp [List.isPrefixOf] at h
  | a :: b :: r, h =>
    simp[List.isPrefixOf]at h;obtain⟨rfl,rfl⟩:=h;rw[qsh (by decide),qsh (by decide)];rfl
theorem xdc{l:List UInt8}(h2:2≤(ze l).length)(h0:(ze l).getD 0 0=45)(h1:(ze l).getD 1 0=62):hasPrefix l [45,62]=true:=by
  have key:∀(m:List UInt8) (c:Nat),c<128→m≠[]→(ze m).getD 0 0=((c:Nat):Int)→∃r,m=UInt8.ofNat c::r:=by
    intro m c hc hm h;rw[qud hm]at h;simp only[List.getD_cons_zero]at h;have h9:=jai (l:=m) (by omega)
    match m,hm with
    | a :: r, _ =>
      simp only[List.getD_cons_zero]at h9;refine⟨r,?_⟩
      congr 1
      rw[show c=a.toNat by omega,UInt8.ofNat_toNat]
  have hl:l≠[]:=fun e=>by subst e; simp[ze,xq]at h2
  obtain⟨r,rfl⟩:=key l 45 (by decide) hl h0;rw[qsh (by decide)]at h1 h2;simp only[List.getD_cons_succ,fw]at h1 h2;have hr:r≠[]:=fun e=>by subst e; simp[ze,xq]at h2
  obtain⟨r',rfl⟩:=key r 62 (by decide) hr h1;rfl
theorem jki{l:List UInt8}{i:Nat}(hi:i<(ze l).length):∃n:Nat,(ze l).getD i 0=((n:Nat):Int)∧C.OkR ((n:Nat):Int):=by
  have key:∀(f:Nat) (l:List UInt8),∀x∈xq f l,∃n:Nat,x=((n:Nat):Int)∧C.OkR ((n:Nat):Int):=by
    intro f
    induction f with
    | zero => intro l x hx; simp [xq] at hx
    | succ f ih =>
      intro l x hx;unfold xq at hx
      split at hx
      · simp at hx
      · rcases ik.1 hx with rfl|hx
        · refine⟨_,rfl,?_⟩;have:=qge l;unfold C.OkR;omega
        · exact ih _ x hx
  rw[show(ze l).getD i 0=(ze l)[i]from by simp[List.getD,List.getElem?_eq_getElem hi]];exact key _ l _ (ip hi)
theorem qsi{rs:List Int}{i:Nat}(hi:i<rs.length)(fl:Bool):inL fl (rs.drop i)=inS fl (rs.getD i 0)++inL false (rs.drop (i+1)):=by
  rw[List.drop_eq_getElem_cons hi,show rs.getD i 0=rs[i]from by simp[List.getD,List.getElem?_eq_getElem hi]];rfl
theorem juj{rs:List Int}{i:Nat}(hi:¬i<rs.length)(fl:Bool):inL fl (rs.drop i)=[]:=by rw[i7 (by omega)]; rfl
theorem zcd: ∀(f:Nat) (l:List UInt8),(xq f l).length≤f
  | 0, l => by simp [xq]
  | f + 1, l => by
    unfold xq
    split
    · simp
    · rw[fw]; have:=zcd f (l.drop (decodeL l).2); omega
theorem jva(s:ByteArray):(ze s.data.toList).length≤s.size:=by
  have:=zcd s.data.toList.length s.data.toList;rw[zm]at this;unfold ze;rw[zm];exact this
end Go.Proofs.YtmnlfahgklnpeaaGreatDoor.G
