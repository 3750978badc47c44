/- Lg LiE LiF LiG KcE ShelfC Tw Tv TwA KcT KcF KcG Kf KcH Kg EqO Ov TrU Tu TrV TrW LiS KcJ KcL -/
import Derived.Test.YtmnlfahgklnpeaaGreatDoorPcondte9g
import Derived.Shelf.Strings.Builder1
import Derived.Shelf.Small.Utf8
import Derived.Shelf.Small.Bits
import Derived.Shelf.Small.Strs
import Derived.Shelf.Small.Wraps
import Derived.Shelf.Strings.BuilderF
import Derived.Shelf.Strings.BuilderK
import Derived.Shelf.Strings.BuilderRune
import Derived.Shelf.Utf8.AppendRune
import Derived.Shelf.Utf8.AppendRunePlain
import Derived.Shelf.Strconv.Itoa0
import Derived.Shelf.Strconv.Itoa1
import Derived.Shelf.LaysM
import Derived.Shelf.Strconv.Itoa2
import Derived.Shelf.Strconv.Itoa3
import Derived.Shelf.Strconv.Clone
import Derived.Shelf.Strings.Search1
import Derived.Shelf.Strings.Prefix
import Derived.Shelf.Strings.Runes
import Derived.WalkKit
import Derived.Laws.Externs
import Derived.Lib.Builder
import Derived.Lib.UnsafeStr
import Derived.Lib.AppendStr
import Derived.Shelf.RegionOpenPlain
import Derived.Lib.ConvBytes
set_option linter.unusedVariables false
set_option linter.unusedSimpArgs false
set_option maxHeartbeats 4000000
set_option maxRecDepth 1000000
namespace Go.Proofs.YtmnlfahgklnpeaaGreatDoor.G
open Go.RowKit
theorem joe{w:World}{so:Option Addr}{k ca:Nat}:Calls Tryz.prog 138 #[.slice so k ca] w fun e w'=>e=.returned (.func (.func 186) #[] #[pA w.heap.size 0])∧w'=w.alloc (.cells #[.slice so k ca] 28):=by
 refine wof Tryz.func138 Tryz.ntmps138 fun Q hret hnorm hP a A=>?_;refine wsr fun _ aa=>kh (v:=pA w.heap.size 0) (w':=w.alloc (.cells #[.slice so k ca] 28)) A rfl rfl rfl (qx (vs:=[.slice so k ca]) rfl rfl) λa A=>?_;refine sda A λA=>?_;refine qa (aa _ _ (wsk (fun _ ab=>wrl ?_)));refine sdo A (qld rfl) λA=>?_;refine sda A λA=>?_;refine qa (ab _ _ (wp_ret (hret _ _ ?_)));exact jq (rs:=[.tmp 2]) A rfl (.cons (qf rfl) .nil) rfl ⟨rfl,rfl⟩
def ZC: List Value:=[iV 0,iV 0,bV false,.slice none 0 0,.slice none 0 0,bV false,.slice none 0 0,.slice none 0 0,.string ⟨#[]⟩,.slice none 0 0,.slice none 0 0]
theorem zqg{g1 g2:Nat}{v1 v2:Array Value}{t:TypeId}:∀c∈[Ck.obj g1 (.cells v1 t),Ck.obj g2 (.cells v2 t)],∃g vs t,c=Ck.obj g (.cells vs t):=by
 intro c hc;simp only[ik,List.not_mem_nil,or_false]at hc;rcases hc with rfl|rfl
 ·exact⟨_,_,_,rfl⟩
 ·exact⟨_,_,_,rfl⟩
def LinkI(w:World)(g3 g4:Nat)(u:Tr)(pre:List (Al w))(W:World):Prop:=∃z:Dt,Mg w W [.obj g4 (.cells ZC.toArray 30),.obj g3 (.cells (z.d.cells z.ts.length).toArray 30)]∧z.rd W∧z.at_ (fun b=>b≠g3∧b≠g4)∧z.tr=zy ((pre.map (fun x=>x.1.2.tr)).reverse) u
theorem jha(w:World)(g3 g4:Nat)(u:Tr)(B:Nat)(hB:w.heap.size≤B):OwnFrom B (LinkI w g3 g4 u):=by
 rintro pre W W' row ⟨z,M,hr,ha,ht⟩ hg hrow;exact⟨z,M.calm hg (fun r e=>⟨gz hB (hrow r e).1,(hrow r e).2⟩) zqg,Dt.kept (qre hg (fun r e=>(hrow r e).2)) _ hr (Dt.at_true _),ha,ht⟩
theorem zxd{w:World}{so:Option Addr}{ca:Nat}{ts:List Dt}{u:Dt}(hR:Rt w so ts)(hD:∀t∈ts,t.rd w)(hu:u.rd w)(hl:ts.length≤1000000000):Calls Tryz.prog 92 #[.slice so ts.length ca,.agg (u.d.cells u.ts.length).toArray] w fun e w'=>∃t2:Dt,e=.returned (.agg (t2.d.cells t2.ts.length).toArray)∧(t2.rd w'∧t2.tr=zy (ts.map Dt.tr) u.tr)∧Below w.heap.size w w':=by
 refine(callsIn_wide (n:=5)).1 ?_;have hF:∀f,Fence.wide.fn f:=fun _=>trivial;refine jzi (l:=[(0,.slice so ts.length ca),(1,.agg (u.d.cells u.ts.length).toArray)]) Tryz.func92 rfl trivial rfl rfl rfl rfl ?_;intro Q hret a A hdf;have M:Mg w w []:=Mg.start w;refine qpe fun _ ak=>wpIn_region_lit ?_;refine jod (vs:=u.d.cells u.ts.length) (t:=30) hF A M rfl rfl rfl (by intro c h; cases h) pg (qx rfl rfl) (by decide) ?_;intro g3 W1 M hg3 hg3' hB1 _ a A h2;refine jod (vs:=ZC) (t:=30) hF A M rfl rfl rfl (by intro c h; cases h) pg (qm (z:=.agg ZC.toArray) (by kernel_rfl) rfl) (by decide) ?_;intro g4 W2 M hg4 hg4' hB2 _ a A h3;refine wpListIn_nil (ak _ _ (qpe fun _ am=>qpe fun _ ap=>wpIn_region_lit ?_));refine qdb (v:=.slice so ts.length ca) hF A rfl rfl rfl (by intro c h; cases h) (zr rfl) fun a A h4=>?_;refine xgh (R:=fun W3=>W3=W2.alloc (.cells #[.slice so ts.length ca] 28)) hF rfl A rfl rfl rfl (by intro c h; cases h) ec (callsIn_wide.2 joe) ?_;rintro W3 hW3 a A h5;refine wpListIn_nil (ap _ _ (wpIn_block ?_));have hB3:Below W2.heap.size W2 W3:=hW3▸(Below.refl _ W2).alloc (gm _) _;have hs3:W3.heap.size=W2.heap.size+1:=by rw[hW3]; simp
 have aq:W3.cell? ⟨W2.heap.size,0,none⟩=some (.slice so ts.length ca):=by
  rw[hW3,cell_of_row _ _ _ _ _ _ (heap_alloc_new W2 _)]; rfl
 replace M:=M.call hB3;have hw2:w.heap.size≤W2.heap.size:=by omega
 have hur:u.rd W3:=Dt.keep M.bel _ hu;have hua:u.at_ (fun b=>b≠g3∧b≠g4):=Dt.at_mono (fun b hb=>by constructor<;>omega) _ (Dt.at_lt _ hu);refine wpIn_rangeFunc_ownH (F:=Fence.wide) rfl (by decide) (gf:=186) (lb:=#[pA W2.heap.size 0]) (A.ev rfl) trivial (fun us w=>by kernel_rfl)
  (zxc hR hD M.bel aq (by omega) hl _) KpB.trans ?hkb (Below.refl _ _) (fun _=>rfl)
  (LinkI w g3 g4 u.tr) (fun _ _ _=>False) (jha w g3 g4 u.tr _ (by omega)) (fun _ _ _ _ _ hs _ _=>hs)
  ⟨u,M,hur,hua,rfl⟩
  (fun x a' W=>∃Bx,Sd a' 16 [(3,pA g3 0),(4,pA g4 0),(6,pA Bx 0)]∧Here W Bx 0 (x.1.2.d.cells x.1.2.ts.length))
  (fun x a' _ X Y row hs hg hr=>by obtain⟨Bx,h1,h2⟩:=hs; exact⟨Bx,h1,h2.kept (qre hg (fun r e=>(hr r e).2))⟩)
  ?assign ?body ?done ?stop
 case hkb=>
  intro W l o o' ar au _ _;refine⟨⟨rfl,rfl,rfl,(grownBy_putObj' W l o').size,fun k hk=>?_⟩,fun v hv=>?_⟩
  ·by_cases av:k<W.heap.size
   ·exact(grownBy_putObj' W l o').block k av (fun e=>by cases e; omega)
   ·have:=(Array.getElem?_eq_some_iff.1 au).1; omega
  ·exact(grownBy_putObj' W l o').cell hv (fun e=>by have e':W2.heap.size=l:=io e; omega)
 case assign=>
  rintro l pre x W K ⟨z,hMz,hrz,haz,htz⟩ hK;have hA1:Sd { tmps:=(a.tmps.setIfInBounds 9 (iV x.1.1)).setIfInBounds 10 (.agg (x.1.2.d.cells x.1.2.ts.length).toArray),defers:=[] } 16 _:=Sl.put (Sl.put A (d:=9) rfl (iV x.1.1)) (d:=10) rfl (.agg (x.1.2.d.cells x.1.2.ts.length).toArray);have hF2:∀f,(Fence.wide.inRound l).fn f:=fun _=>trivial;have hxr:x.1.2.rd W:=Dt.keep hMz.bel _ x.2;simp only[xkb,List.zip_toArray,List.zip_cons_cons,List.zip_nil_left,List.zip_nil_right,List.foldl_toArray',List.foldl_toArray,List.foldl_cons,List.foldl_nil];refine wpIn_region_lit ?_;refine jod (a:={ tmps:=(a.tmps.setIfInBounds 9 (iV x.1.1)).setIfInBounds 10 (.agg (x.1.2.d.cells x.1.2.ts.length).toArray),defers:=[] }) (vs:=ZC) (t:=30) hF2 hA1 hMz rfl rfl rfl (by intro c h; cases h) pg (qm (z:=.agg ZC.toArray) (by kernel_rfl) rfl) (by decide) ?_;intro Bx W6 ab hBx hBx' hB6 ah a6 hA6 _;refine joc (w':=W6.setCells Bx 0 (x.1.2.d.cells x.1.2.ts.length)) hF2 hA6 rfl rfl (by intro c h; cases h) (qj rfl rfl rfl (by kernel_rfl) ab 0 rfl rfl (qej x.1.2)) ?_;have ac:Mg w (W6.setCells Bx 0 (x.1.2.d.cells x.1.2.ts.length)) (.obj Bx (.cells (x.1.2.d.cells x.1.2.ts.length).toArray 30)::[.obj g4 (.cells ZC.toArray 30),.obj g3 (.cells (z.d.cells z.ts.length).toArray 30)]):=Mg.puts (x.1.2.d.cells x.1.2.ts.length) W6 _ ZC 0 ab 0 rfl;have hkp:Kept (· ≠ Bx) W6 (W6.setCells Bx 0 (x.1.2.d.cells x.1.2.ts.length)):=qei _ _ _ _;have hks:=ah.trans (qhc Bx (x.1.2.d.cells x.1.2.ts.length) W6 0);have hsW:=hMz.bel.size;have hbs:=(hB6.mono hsW).trans (qmg (B:=w.heap.size) Bx (by omega) (x.1.2.d.cells x.1.2.ts.length) W6 0);revert hkp ac hks hbs;generalize W6.setCells Bx 0 (x.1.2.d.cells x.1.2.ts.length)=W7;intro ac hkp hks hbs
  refine wpListIn_nil (hK _ _ (hks.from _) ⟨hbs,fun v hv=>hkp.2 _ _ _ (show W2.heap.size≠Bx by have:=cell_lt hv; omega) ((hB6.cell (p:=⟨W2.heap.size,0,none⟩) (cell_lt hv)).trans hv)⟩ ⟨z,ac.sub (cN (.refl _)),Dt.kept hkp _ (Dt.keep hB6 _ hrz) (Dt.at_mono (fun b hb=>by intro e; omega) _ (Dt.at_lt _ hrz)),haz,htz⟩ ⟨Bx,hA6.keep _ ⟨rfl,rfl,rfl,trivial⟩,(Array.getElem?_eq_some_iff.1 (ac.obj 0 rfl)).1,fun j v hj=>by rw[Nat.zero_add]; exact ac.cell 0 rfl j hj⟩)
 case body=>
  rintro l pre x a' W ar _ ⟨z,hMz,hrz,haz,htz⟩ ⟨Bx,A,hH⟩ _;have hF2:∀f,(Fence.wide.inRound l).fn f:=fun _=>trivial;have hxr:x.1.2.rd W:=Dt.keep hMz.bel _ x.2;refine wpIn_block (wpIn_region_lit ?_);refine qdb (v:=.agg (x.1.2.d.cells x.1.2.ts.length).toArray) hF2 A rfl rfl rfl (by intro c h; cases h) (ju rfl (vy qfd _ rfl (fun j v hj=>by have:=hH.2 j v hj; rwa [Nat.zero_add]at this ⊢))) fun a A h6=>?_;refine qdb (v:=.agg (z.d.cells z.ts.length).toArray) hF2 A rfl rfl rfl (by intro c h; cases h) (qz hMz qfd rfl 1 rfl (cs:=z.d.cells z.ts.length) rfl rfl) fun a A h7=>?_;refine qdb (v:=.slice (some ⟨W.heap.size,0,none⟩) 2 2) (w':=W.alloc (.cells (cellsOf [x.1.2,z]).toArray 30)) hF2 A rfl rfl rfl (by intro c h; cases h) (qg rfl (by kernel_rfl)) fun a A h8=>?_;obtain⟨z2,af⟩:∃z2:Dt,z2=yk W.heap.size x.1.2 z:=⟨_,rfl⟩;refine qdb (v:=.agg (z2.d.cells z2.ts.length).toArray) hF2 A rfl rfl rfl (by intro c h; cases h) (by rw[af,zpe]; exact qn rfl (fun w=>by kernel_rfl)) fun a A h9=>?_;have hB4:Below W.heap.size W (W.alloc (.cells (cellsOf [x.1.2,z]).toArray 30)):=(Below.refl _ W).alloc (gm _) _;have ag:=hMz.call hB4;have hnew:=heap_alloc_new W (.cells (cellsOf [x.1.2,z]).toArray 30);have ai:KeepsOthers W (W.alloc (.cells (cellsOf [x.1.2,z]).toArray 30)):=KeepsOthers.alloc _ _;have hs4:(W.alloc (.cells (cellsOf [x.1.2,z]).toArray 30)).heap.size=W.heap.size+1:=by simp
  have hg3W:g3<W.heap.size:=(Ck.lt (hMz.has 1 rfl) g3 rfl).2;have hg4W:g4<W.heap.size:=(Ck.lt (hMz.has 0 rfl) g4 rfl).2;have hsW:=hMz.bel.size;revert hB4 ag hnew ai hs4;generalize W.alloc (.cells (cellsOf [x.1.2,z]).toArray 30)=W4;intro hB4 ag hnew ai hs4;refine joc (w':=W4.setCells g3 0 (z2.d.cells z2.ts.length)) hF2 A rfl rfl (by intro c h; cases h) (qj rfl rfl rfl (by kernel_rfl) ag 1 rfl rfl (qej z2)) ?_;refine wpListIn_nil ?_;have hkp:Kept (· ≠ g3) W4 (W4.setCells g3 0 (z2.d.cells z2.ts.length)):=qei _ _ _ _;have aa:Mg w (W4.setCells g3 0 (z2.d.cells z2.ts.length)) [.obj g4 (.cells ZC.toArray 30),.obj g3 (.cells (z2.d.cells z2.ts.length).toArray 30)]:=Mg.puts (z2.d.cells z2.ts.length) W4 _ (z.d.cells z.ts.length) 0 ag 1 rfl;have aj:x.1.2.rd (W4.setCells g3 0 (z2.d.cells z2.ts.length)):=Dt.keep aa.bel _ x.2;have ae:z.rd (W4.setCells g3 0 (z2.d.cells z2.ts.length)):=Dt.kept hkp _ (Dt.keep hB4 _ hrz) (Dt.at_mono (fun b hb=>hb.1) _ haz);have hxa:x.1.2.at_ (fun b=>b≠g3∧b≠g4):=Dt.at_mono (fun b hb=>by constructor<;>omega) _ (Dt.at_lt _ x.2);have hks:=ai.trans (qhc g3 (z2.d.cells z2.ts.length) W4 0);have hbs:=(hB4.mono hsW).trans (qmg (B:=w.heap.size) g3 (by omega) (z2.d.cells z2.ts.length) W4 0);revert hkp aa aj ae hks hbs;generalize W4.setCells g3 0 (z2.d.cells z2.ts.length)=W5;intro hkp aa aj ae hks hbs;refine⟨hks.from _,⟨hbs,fun v hv=>hkp.2 _ _ _ (show W2.heap.size≠g3 by omega) ((hB4.cell (p:=⟨W2.heap.size,0,none⟩) (cell_lt hv)).trans hv)⟩,z2,aa,?_,?_,?_⟩
  ·rw[af];refine zpg (by have:=hkp.1; omega) (fun p v hp=>hkp.2 _ _ _ (show W.heap.size≠g3 by omega) ?_) aj ae;rw[cell_of_row _ _ _ _ _ _ hnew];simpa using hp
  ·rw[af];exact qya ⟨by omega,by omega⟩ hxa haz
  ·rw[af,zpf,j6,List.reverse_append];show Tr.mk 8 0 Q6.zero ⟨#[]⟩ [] [x.1.2.tr,z.tr]=zy (x.1.2.tr::_) u.tr;rw[htz];rfl
 case done=>
  rintro D xs W hD1 S ⟨z,hMz,hrz,haz,htz⟩ hDf;have hA2:Sd { a with defers:={ target:=.collected D,args:=#[] }::a.defers } 16 _:=A;revert hA2;generalize hae:({ a with defers:={ target:=.collected D,args:=#[] }::a.defers }:Act)=a2;intro hA2;have had:a2.defers=[{ target:=.collected D,args:=#[] }]:=by rw[←hae]; show _::a.defers=_; rw[h5,h4,h3,h2,hdf]
  refine am _ _ (qpe fun _ ah=>wpIn_region_lit ?_);refine qdb (v:=.agg (z.d.cells z.ts.length).toArray) hF hA2 rfl rfl rfl (by intro c h; cases h) (qz hMz qfd rfl 1 rfl (cs:=z.d.cells z.ts.length) rfl rfl) fun a3 hA3 h6=>?_;refine joc (w':=W.setCells g4 0 (z.d.cells z.ts.length)) hF hA3 rfl rfl (by intro c h; cases h) (qj rfl rfl rfl (by kernel_rfl) hMz 0 rfl rfl (qej z)) ?_;have aa:Mg w (W.setCells g4 0 (z.d.cells z.ts.length)) [.obj g4 (.cells (z.d.cells z.ts.length).toArray 30),.obj g3 (.cells (z.d.cells z.ts.length).toArray 30)]:=Mg.puts (z.d.cells z.ts.length) W _ ZC 0 hMz 0 rfl;have ae:z.rd (W.setCells g4 0 (z.d.cells z.ts.length)):=Dt.kept (qei _ _ _ _) _ hrz (Dt.at_mono (fun b hb=>hb.2) _ haz);have hD5:=(qhc g4 (z.d.cells z.ts.length) W 0).same D _ hDf rfl;have hgr:=grownBy_putObj' (W.setCells g4 0 (z.d.cells z.ts.length)) D (.deferred none);have ab:=aa.calm hgr (fun r e=>by cases e; exact⟨by omega,_,hD5,rfl⟩) zqg;have aw:=Dt.kept (qre hgr (fun r e=>by cases e; exact⟨_,hD5,rfl⟩)) _ ae (Dt.at_true _);refine wpListIn_nil (ah _ _ (wpIn_ret (hret _ _ ?_)));show LeavesInM _ _ _ _ _ _ a3.defers .returning _;rw[h6,had];refine⟨by simp,.inl ⟨D,_,rfl,run_takeDeferred hD5,?_⟩⟩;have hfin:(fun(e:Ending) (w':World)=>∃t2:Dt,e=.returned (.agg (t2.d.cells t2.ts.length).toArray)∧(t2.rd w'∧t2.tr=zy (ts.map Dt.tr) u.tr)∧Below w.heap.size w w') (.returned (.agg (z.d.cells z.ts.length).toArray)) ((W.setCells g4 0 (z.d.cells z.ts.length)).putObj D (.deferred none)):=by
   refine⟨z,rfl,⟨aw,?_⟩,ab.bel⟩;rw[htz];have e1:xs.map (fun x=>x.1.2.tr)=(xs.map (fun x=>x.1.2)).map Dt.tr:=(by rw[List.map_map]; rfl);rw[e1,show xs.map (fun x=>x.1.2)=ts.reverse from S,List.map_reverse,List.reverse_reverse]
  exact(jq (P:=Tryz.prog) (fn:=Tryz.f92) (Z:=(fun(e:Ending) (w':World)=>∃t2:Dt,e=.returned (.agg (t2.d.cells t2.ts.length).toArray)∧(t2.rd w'∧t2.tr=zy (ts.map Dt.tr) u.tr)∧Below w.heap.size w w')) (v:=.agg (z.d.cells z.ts.length).toArray) (rs:=[.cell 4 30]) (vs:=[.agg (z.d.cells z.ts.length).toArray]) hA3 rfl (.cons (zw ab qfd rfl 0 rfl (cs:=z.d.cells z.ts.length) rfl rfl) .nil) rfl hfin).2
 case stop=>
  rintro D c pre W _ _ h _;exact h.elim
theorem qmh{w:World}{so:Option Addr}{ca:Nat}{ts:List Dt}(hR:Rt w so ts)(hD:∀t∈ts,t.rd w)(hl:ts.length≤1000000000)(hT:Tabs8 w){b:Bool}(h:(ts.all fun t=>qs qh t.tr)=b):Calls Tryz.prog 147 #[.slice so ts.length ca] w (RB w (bV b)):=h▸zkd hR hD hl hT
theorem qpf{w:World}{so:Option Addr}{ca:Nat}{t:Dt}(hR:Rt w so [t])(ht:t.rd w)(hT:Tabs8 w){b:Bool}(h:qs qh t.tr=b):Calls Tryz.prog 147 #[.slice so 1 ca] w (RB w (bV b)):=
 qmh (ts:=[t]) hR (fun u hu=>by rw[iq.1 hu]; exact ht) (by simp) hT (by rw[List.all_cons,List.all_nil,Bool.and_true]; exact h)
theorem qmi{w0 w:World}{t:Dt}(h0:Below w0.heap.size w0 w)(ht0:t.rd w0){so:Option Addr}{ca:Nat}{ts:List Dt}(hR:Rt w so ts)(hD:∀t∈ts,t.rd w)(hl:ts.length≤1000000000)(hb:t.tr.bulk≤1000000000)(hT:Tabs8 w):Calls Tryz.prog 106 #[.agg (t.d.cells t.ts.length).toArray,.slice so ts.length ca] w fun e w'=>(∃so' ca' ys,e=.returned (.tuple #[.slice so' (ys:List Dt).length ca',iV 0])∧((qs qh t.tr&&(ts.all fun t=>qs qh t.tr))=true∧js t.tr=some (ys.map Dt.tr)∧(∀x∈ys,x.rd w0)∧ys.length≤t.tr.bulk)∧Mg w w' [.row 30 11 (.slice so' ys.length ca') ys.length (cellsOf ys)])∨(e=.returned (.tuple #[.slice none 0 0,iV 10])∧((qs qh t.tr&&(ts.all fun t=>qs qh t.tr))=true∧js t.tr=none)∧Below w.heap.size w w')∨(e=.returned (.tuple #[.slice none 0 0,iV 2])∧(qs qh t.tr&&(ts.all fun t=>qs qh t.tr))=false∧Below w.heap.size w w'):=by
 have ht:=Dt.keep h0 _ ht0;have M:=Mg.start w;refine wof Tryz.func106 Tryz.ntmps106 fun Q hret hnorm hP a A=>?_;refine wsr fun _ ai=>zj (vs:=(t.d.cells t.ts.length)) (t:=30) A M rfl rfl rfl pg (qx rfl rfl) (by decide) ?_;intro g2 _ M a A;iterate 2 refine sda A λA=>?_
 refine qa (ai _ _ (wsk fun K4 aj=>wsr fun _ af=>sdo A (qz M zv rfl 0 rfl (cs:=(t.d.cells t.ts.length)) rfl rfl) λA=>?_));refine jr (e:=30) (sz:=11) (m:=1) (vs:=cellsOf [t]) A M rfl rfl rfl (qg rfl (by kernel_rfl)) rfl rfl (.inl (by decide)) ?_;intro g6 _ M a A;rcases tf (qs qh t.tr)with ab|ab
 ·refine gcl A M ec (qpf (kv (M.has 0 rfl)).1 (Dt.keep M.bel _ ht) (hT.below M.bel) ab) fun _ _ M a A=>?_;refine sdu A λA=>?_;iterate 2 refine sdm A λA=>?_
  rcases tf ((ts.all fun t=>qs qh t.tr))with aa|aa
  ·refine gcl A M ec (qmh (hR.below M.bel) (fun t ht=>Dt.keep M.bel _ (hD t ht)) hl (hT.below M.bel) aa) fun _ _ M a A=>?_;refine sdu A λA=>?_;refine sdk (v:=bV false) A λA=>?_;refine qcf af A ?_;refine wp_skip (aj _ _ (wsr fun _ ae=>sdo A (qz M zv rfl 1 rfl (cs:=(t.d.cells t.ts.length)) rfl rfl) λA=>?_));rcases tf ((js t.tr).isSome)with ac|ac
   ·refine sct A ec (zdd (h0.trans (M.bel.mono h0.size)) ht0 (qkc ab) hb ac) ?_;rintro _ ak ⟨am,ap,ys,rfl,⟨hy1,hy2,hy3⟩,aq⟩;replace M:=(M.both aq (qi (by simp) (qi (by simp) (za zd))) (qi (by simp) (za zd)));refine⟨_,rfl,?_⟩;intro a A;iterate 2 refine sde A λA=>?_
    iterate 2 refine sda A λA=>?_
    refine qa (ae _ _ (wp_ret (hret _ _ (en2 A rfl (qf rfl) (qf rfl) ?_))));replace M:Mg w ak (.row 30 11 (.slice am ys.length ap) ys.length (cellsOf ys)::[]):=by
     have h9:=M.sub (cC (cN (cN (.refl _))));exact h9
    exact .inl ⟨_,_,ys,rfl,⟨(by rw[ab,aa]; rfl),hy1,hy2,hy3⟩,M⟩
   ·refine gcl A M ec (zde (h0.trans (M.bel.mono h0.size)) ht0 (qkc ab) hb ac) fun _ _ M a A=>?_;iterate 2 refine sde A λA=>?_
    iterate 2 refine sda A λA=>?_
    refine qa (ae _ _ (wp_ret (hret _ _ (en2 A rfl (qf rfl) (qf rfl) ?_))));exact .inr (.inl ⟨rfl,⟨(by rw[ab,aa]; rfl),Option.isSome_eq_false_iff.1 ac |> Option.isNone_iff_eq_none.1⟩,M.bel⟩)
  ·refine gcl A M ec (qmh (hR.below M.bel) (fun t ht=>Dt.keep M.bel _ (hD t ht)) hl (hT.below M.bel) aa) fun _ _ M a A=>?_;refine sdu A λA=>?_;refine sdk (v:=bV true) A λA=>?_;refine qct af A ?_;refine wsr fun _ ag=>?_;iterate 2 refine sda A λA=>?_
   refine qa (ag _ _ (wp_ret (hret _ _ (en2 A rfl (qf rfl) (qf rfl) ?_))));exact .inr (.inr ⟨rfl,by rw[ab,aa]; rfl,M.bel⟩)
 ·refine gcl A M ec (qpf (kv (M.has 0 rfl)).1 (Dt.keep M.bel _ ht) (hT.below M.bel) ab) fun _ _ M a A=>?_;refine sdu A λA=>?_;refine sdm A λA=>?_;iterate 3 refine sks A λA=>?_
  refine sdk (v:=bV true) A λA=>?_;refine qct af A ?_;refine wsr fun _ ah=>?_;iterate 2 refine sda A λA=>?_
  refine qa (ah _ _ (wp_ret (hret _ _ (en2 A rfl (qf rfl) (qf rfl) ?_))));exact .inr (.inr ⟨rfl,by rw[ab]; rfl,M.bel⟩)
theorem zxe{w0 w:World}{t:Dt}(h0:Below w0.heap.size w0 w)(ht:t.rd w0)(hb:t.tr.bulk≤1000000000)(hT:Tabs8 w)(hs:qs qh t.tr=true)(h:(js t.tr).isSome=true):Calls Tryz.prog 106 #[.agg (t.d.cells t.ts.length).toArray,.slice none 0 0] w fun e w'=>∃so' ca' ys,e=.returned (.tuple #[.slice so' (ys:List Dt).length ca',iV 0])∧(js t.tr=some (ys.map Dt.tr)∧(∀x∈ys,x.rd w0)∧ys.length≤t.tr.bulk)∧Mg w w' [.row 30 11 (.slice so' ys.length ca') ys.length (cellsOf ys)]:=by
 refine(qmi (ts:=[]) h0 ht (so:=none) (ca:=0) (fun k=>absurd rfl k) (fun t h=>by cases h) (by decide) hb hT).mono ?_;rintro e w' (⟨so',ca',ys,h1,h2,h3⟩|⟨_,h2,_⟩|⟨_,h2,_⟩)
 ·exact⟨so',ca',ys,h1,h2.2,h3⟩
 ·rw[h2.2]at h; cases h
 ·rw[hs]at h2; cases h2
theorem zxf{w0 w:World}{t:Dt}(h0:Below w0.heap.size w0 w)(ht:t.rd w0)(hb:t.tr.bulk≤1000000000)(hT:Tabs8 w)(hs:qs qh t.tr=true)(h:(js t.tr).isSome=false):Calls Tryz.prog 106 #[.agg (t.d.cells t.ts.length).toArray,.slice none 0 0] w (RB w (.tuple #[.slice none 0 0,iV 10])):=by
 refine(qmi (ts:=[]) h0 ht (so:=none) (ca:=0) (fun k=>absurd rfl k) (fun t h=>by cases h) (by decide) hb hT).mono ?_;rintro e w' (⟨so',ca',ys,h1,h2,h3⟩|⟨h1,h2,h3⟩|⟨_,h2,_⟩)
 ·rw[h2.2.1]at h; cases h
 ·exact⟨h1,h3⟩
 ·rw[hs]at h2; cases h2
theorem jhb{w0 w:World}{t:Dt}(h0:Below w0.heap.size w0 w)(ht:t.rd w0)(hb:t.tr.bulk≤1000000000)(hT:Tabs8 w)(hs:qs qh t.tr=false):Calls Tryz.prog 106 #[.agg (t.d.cells t.ts.length).toArray,.slice none 0 0] w (RB w (.tuple #[.slice none 0 0,iV 2])):=by
 refine(qmi (ts:=[]) h0 ht (so:=none) (ca:=0) (fun k=>absurd rfl k) (fun t h=>by cases h) (by decide) hb hT).mono ?_;rintro e w' (⟨so',ca',ys,h1,h2,h3⟩|⟨h1,h2,h3⟩|⟨h1,h2,h3⟩)
 ·rw[hs]at h2; cases h2.1
 ·rw[hs]at h2; cases h2.1
 ·exact⟨h1,h3⟩
theorem zqh{w:World}{so:Option Addr}{ca:Nat}{ts:List Dt}(hR:Rt w so ts)(hD:∀t∈ts,t.rd w){u:Dt}(hu:u.rd w)(hb:Tr.bulks (ts.map Dt.tr)+u.tr.bulk≤400000000)(hT:Tabs8 w):Calls Tryz.prog 57 #[.slice so ts.length ca,.agg (u.d.cells u.ts.length).toArray] w fun e w'=>∃(t2:Dt) (k:Int),e=.returned (.tuple #[.agg (t2.d.cells t2.ts.length).toArray,iV k])∧(t2.rd w'∧t2.at_ (w.heap.size≤·)∧(t2.tr,k)=fitS (ts.map Dt.tr) u.tr)∧Below w.heap.size w w':=by
 have hbl:=yj ts;have M:=Mg.start w;refine wof Tryz.func57 Tryz.ntmps57 fun Q hret hnorm hP a A=>?_;refine wsr fun _ av=>zj (vs:=(u.d.cells u.ts.length)) (t:=30) A M rfl rfl rfl pg (qx rfl rfl) (by decide) ?_;intro g2 _ M a A;refine zj (vs:=(zb.d.cells zb.ts.length)) (t:=30) A M rfl rfl rfl pg (qm (z:=.agg (zb.d.cells zb.ts.length).toArray) (by kernel_rfl) rfl) (by decide) ?_;intro g4 _ M a A;refine sda A λA=>?_;refine qwk av fun _ aw=>wsr fun _ au=>sdm A λA=>?_;refine sdo A (qr f9 rfl) λA=>?_;rcases tf (decide (20000<((ts.length:Nat):Int)))with ab|ab
 ·have ab':=f5 ab;refine sdc A jh ab λA=>?_;refine qct au A ?_;refine wsr fun _ ax=>sdo (v:=.agg (zb.d.cells zb.ts.length).toArray) A (qn rfl (fun w=>by kernel_rfl)) λA=>?_;refine qt A M rfl rfl (qj rfl rfl rfl (by kernel_rfl) M 0 rfl rfl rfl) 0 rfl rfl rfl ?_;intro _ M;refine sda A λA=>?_;refine qa (ax _ _ (wp_ret (hret _ _ (en2 A rfl (zw M zv rfl 0 rfl (cs:=zD) rfl rfl) (qf rfl) ?_))));exact⟨zb,4,rfl,⟨qxe _,zpa _,by rw[jgh (by rw[gy]; omega),qxd]⟩,M.bel⟩
 ·have ab':=fy ab;refine sdc A jh ab λA=>?_;refine qcf au A ?_;refine wp_skip (aw _ _ (wsr fun _ ag=>sdm A λA=>?_));refine sdo A (qz M zv rfl 1 rfl (cs:=(u.d.cells u.ts.length)) rfl rfl) λA=>?_;have _:=(Ck.lt (M.has 0 rfl) g4 rfl).2;have _:=(Ck.lt (M.has 1 rfl) g2 rfl).2;have hzt3:=M.bel.size;refine sct A ec (zxd (hR.below M.bel) (fun t ht=>Dt.keep M.bel _ (hD t ht)) (Dt.keep M.bel _ hu) (by omega)) ?_;rintro _ _ ⟨t3,rfl,⟨hrt3,htt3⟩,ah⟩;replace M:=M.call ah;refine⟨_,rfl,?_⟩;intro a A;refine zjb (vs:=(zb.d.cells zb.ts.length)) (t:=30) A M rfl rfl rfl pg (qm (z:=.agg (zb.d.cells zb.ts.length).toArray) (by kernel_rfl) rfl) (by decide) ?_;intro g16 _ M hg18 ai a A;have hnt3g16:=Dt.at_mono (q:=(· ≠ g16)) (fun b hb=>by intro e; omega) _ (Dt.at_lt _ hrt3);replace hrt3:=Dt.keep ai _ hrt3;refine ky A M rfl rfl (qj rfl rfl rfl (by kernel_rfl) M 0 rfl rfl rfl) 0 rfl rfl rfl ?_;intro _ M aj;replace hrt3:=Dt.kept aj _ hrt3 hnt3g16;refine qa (ag _ _ (wsk fun _ ak=>wsr fun _ ac=>sdo A (qz M zv rfl 0 rfl (cs:=(t3.d.cells t3.ts.length)) rfl rfl) λA=>?_));rcases tf (qs qh t3.tr)with aa|aa
  ·refine sct A ec ((aa▸sound_any (t:=t3) hrt3 (hT.below M.bel))) ?_;rintro _ _ ⟨rfl,ae⟩;replace hrt3:=Dt.keep ae _ hrt3;replace M:=M.call ae;refine⟨_,rfl,?_⟩;intro a A;refine sdu A λA=>?_;refine qcf ac A ?_;refine wp_skip (ak _ _ (wsr fun _ am=>sdo A (qz M zv rfl 0 rfl (cs:=(t3.d.cells t3.ts.length)) rfl rfl) λA=>?_));have _:=(Ck.lt (M.has 0 rfl) g16 rfl).2;have _:=(Ck.lt (M.has 1 rfl) g4 rfl).2;have _:=(Ck.lt (M.has 2 rfl) g2 rfl).2;have hzt2:=M.bel.size;refine sct A ec (qcj t3 hrt3 (by rw[htt3,qca,gy]; omega)) ?_;rintro _ _ ⟨t2,rfl,⟨hrt2,hat2,htt2⟩,ap⟩;replace M:=M.call ap;refine⟨_,rfl,?_⟩;intro a A;refine ky A M rfl rfl (qj rfl rfl rfl (by kernel_rfl) M 1 rfl rfl rfl) 1 rfl rfl rfl ?_;intro _ M aq;replace hrt2:=Dt.kept aq _ hrt2 (Dt.at_mono (fun b hb=>by rintro rfl; omega) _ hat2);refine sda A λA=>?_;refine qa (am _ _ (wp_ret (hret _ _ (en2 A rfl (zw M zv rfl 1 rfl (cs:=[iV t2.d.k,iV t2.d.n,bV t2.d.y.q.b1,.slice t2.d.y.o1 t2.d.y.q.t1.length t2.d.y.c1,.slice t2.d.y.o2 t2.d.y.q.q1.length t2.d.y.c2,bV t2.d.y.q.b2,.slice t2.d.y.o3 t2.d.y.q.t2.length t2.d.y.c3,.slice t2.d.y.o4 t2.d.y.q.q2.length t2.d.y.c4,.string t2.d.s,.slice t2.d.ro t2.d.rl.length t2.d.rc,.slice t2.d.lo t2.ts.length t2.d.lc]) rfl rfl) (qf rfl) ?_))));exact⟨t2,0,rfl,⟨hrt2,Dt.at_mono (fun b hb=>gz hzt2 hb) _ hat2,by rw[htt3]at aa; rw[qpc aa,htt2,htt3]⟩,M.bel⟩
  ·refine sct A ec ((aa▸sound_any (t:=t3) hrt3 (hT.below M.bel))) ?_;rintro _ _ ⟨rfl,af⟩;replace hrt3:=Dt.keep af _ hrt3;replace M:=M.call af;refine⟨_,rfl,?_⟩;intro a A;refine sdu A λA=>?_;refine qct ac A ?_;refine wsr fun _ ar=>sdo (v:=.agg (zb.d.cells zb.ts.length).toArray) A (qn rfl (fun w=>by kernel_rfl)) λA=>?_;refine ky A M rfl rfl (qj rfl rfl rfl (by kernel_rfl) M 1 rfl rfl rfl) 1 rfl rfl rfl ?_;intro _ M _;refine sda A λA=>?_;refine qa (ar _ _ (wp_ret (hret _ _ (en2 A rfl (zw M zv rfl 1 rfl (cs:=zD) rfl rfl) (qf rfl) ?_))));exact⟨zb,4,rfl,⟨qxe _,zpa _,by rw[htt3]at aa; rw[zkf aa,qxd]⟩,M.bel⟩
theorem jzj{α:Type}{x:Option α}(h:x.isSome=false):x=none:=Option.isNone_iff_eq_none.1 (Option.isSome_eq_false_iff.1 h)
theorem of_any{w:World}{so:Option Addr}{ca:Nat}{ts:List Dt}(hR:Rt w so ts)(hD:∀t∈ts,t.rd w)(hb:Tr.bulks (ts.map Dt.tr)≤300000000)(hT:Tabs8 w):Calls Tryz.prog 25 #[.slice so ts.length ca] w fun e w'=>∃t2:Dt,e=.returned (.agg (t2.d.cells t2.ts.length).toArray)∧(t2.rd w'∧t2.at_ (w.heap.size≤·)∧t2.tr=ofS (ts.map Dt.tr))∧Below w.heap.size w w':=by
 have hnb:qxc.tr.bulk=1:=by rw[qkb]; rfl
 have M:=Mg.start w;refine wof Tryz.func25 Tryz.ntmps25 fun Q hret hnorm hP a A=>?_;refine wsr fun _ af=>zj (vs:=(zb.d.cells zb.ts.length)) (t:=30) A M rfl rfl rfl pg (qm (z:=.agg (zb.d.cells zb.ts.length).toArray) (by kernel_rfl) rfl) (by decide) ?_;intro g2 _ M a A;refine qwr af fun K4 ag=>sdm A λA=>?_;refine gcl A M ec (jzg) fun _ _ M a A=>?_;have _:=(Ck.lt (M.has 0 rfl) g2 rfl).2;have hzt2:=M.bel.size;refine sct A ec (zqh (u:=qxc) (hR.below M.bel) (fun t ht=>Dt.keep M.bel _ (hD t ht)) (jci _) (by omega) (hT.below M.bel)) ?_;rintro _ _ ⟨t2,k2,rfl,⟨hrt2,hat2,htt2⟩,ah⟩;replace M:=M.call ah;refine⟨_,rfl,?_⟩;intro a A;refine sdm A λA=>?_;iterate 2 refine sde A λA=>?_
 refine zjb (vs:=(zb.d.cells zb.ts.length)) (t:=30) A M rfl rfl rfl pg (qm (z:=.agg (zb.d.cells zb.ts.length).toArray) (by kernel_rfl) rfl) (by decide) ?_;intro g10 _ M hg12 aa a A;have hnt2g10:=Dt.at_mono (q:=(· ≠ g10)) (fun b hb=>by intro e; omega) _ (Dt.at_lt _ hrt2);replace hrt2:=Dt.keep aa _ hrt2;refine ky A M rfl rfl (qj rfl rfl rfl (by kernel_rfl) M 0 rfl rfl rfl) 0 rfl rfl rfl ?_;intro _ M ab;replace hrt2:=Dt.kept ab _ hrt2 hnt2g10;refine sda A λA=>?_;refine qa (ag _ _ (wsr fun _ ac=>sdo A (qz M zv rfl 0 rfl (cs:=(t2.d.cells t2.ts.length)) rfl rfl) λA=>?_));refine ky A M rfl rfl (qj rfl rfl rfl (by kernel_rfl) M 1 rfl rfl rfl) 1 rfl rfl rfl ?_;intro _ M ae;replace hrt2:=Dt.kept ae _ hrt2 (Dt.at_mono (fun b hb=>by rintro rfl; omega) _ hat2);refine qa (ac _ _ (wp_ret (hret _ _ (en1 A rfl (zw M zv rfl 1 rfl (cs:=[iV t2.d.k,iV t2.d.n,bV t2.d.y.q.b1,.slice t2.d.y.o1 t2.d.y.q.t1.length t2.d.y.c1,.slice t2.d.y.o2 t2.d.y.q.q1.length t2.d.y.c2,bV t2.d.y.q.b2,.slice t2.d.y.o3 t2.d.y.q.t2.length t2.d.y.c3,.slice t2.d.y.o4 t2.d.y.q.q2.length t2.d.y.c4,.string t2.d.s,.slice t2.d.ro t2.d.rl.length t2.d.rc,.slice t2.d.lo t2.ts.length t2.d.lc]) rfl rfl) ?_))));exact⟨t2,rfl,⟨hrt2,Dt.at_mono (fun b hb=>gz hzt2 hb) _ hat2,by unfold ofS; rw[←qkb,←htt2]⟩,M.bel⟩
theorem kz{w:World}{k:Int}{t:Dt}:Calls Tryz.prog 28 #[iV k,.agg (t.d.cells t.ts.length).toArray] w fun e w'=>∃g,e=.returned (.agg (Sp.mk k (aO g) 1 [t]).c.toArray)∧Mg w w' [.row 30 11 (.slice (aO g) 1 1) 1 (cellsOf [t])]:=by
 have M:=Mg.start w;refine wof Tryz.func28 Tryz.ntmps28 fun Q hret hnorm hP a A=>?_;refine wsr fun _ aa=>zj (vs:=(t.d.cells t.ts.length)) (t:=30) A M rfl rfl rfl pg (qx rfl rfl) (by decide) ?_;intro g2 _ M a A;refine zj (vs:=ue.c) (t:=65) A M rfl rfl rfl pg (qm (z:=.agg ue.c.toArray) (by kernel_rfl) rfl) (by decide) ?_;intro g4 _ M a A;refine qwr aa fun _ ab=>sdm A λA=>?_;refine sdo A (qz M zv rfl 1 rfl (cs:=(t.d.cells t.ts.length)) rfl rfl) λA=>?_;refine jr (e:=30) (sz:=11) (m:=1) (vs:=cellsOf [t]) A M rfl rfl rfl (qg rfl (by kernel_rfl)) rfl rfl (.inl (by decide)) ?_;intro g7 _ M a A;refine sdo (v:=.agg #[iV k,.slice (aO g7) 1 1]) A (qn rfl (fun w=>by kernel_rfl)) λA=>?_;refine qt A M rfl rfl (qj rfl rfl rfl (by kernel_rfl) M 1 rfl rfl rfl) 1 rfl rfl rfl ?_;intro _ M;refine qa (ab _ _ (wp_ret (hret _ _ (en1 A rfl (zw M zwh rfl 1 rfl (cs:=[iV k,.slice (aO g7) 1 1]) rfl rfl) ?_))));replace M:=M.sub (cC (cN (cN (.refl _))));exact⟨g7,rfl,M⟩
theorem zxg(t:Dt):isF t.tr=(decide (t.d.k=2)&&decide (t.d.n=0)):=by cases t; rfl
theorem qtg{w:World}{t:Dt}:Calls Tryz.prog 27 #[.agg (t.d.cells t.ts.length).toArray] w (RB w (bV (isF t.tr))):=by
 have M:=Mg.start w;refine wof Tryz.func27 Tryz.ntmps27 fun Q hret hnorm hP a A=>?_;refine wsr fun _ ae=>zj (vs:=(t.d.cells t.ts.length)) (t:=30) A M rfl rfl rfl pg (qx rfl rfl) (by decide) ?_;intro g2 _ M a A;refine sda A λA=>?_;refine qa (ae _ _ (wsr fun K4 ac=>sdf A 0 xk λA=>?_));refine sdl A M o93 0 λA=>?_;rcases tf ((t.d.k==2))with aa|aa
 ·have aa':=gr aa;refine sdc A qe aa λA=>?_;refine sdm A λA=>?_;refine sdf A 1 vn λA=>?_;refine sdl A M o93 0 λA=>?_;rcases tf ((t.d.n==0))with ab|ab
  ·have ab':=gr ab;refine sdc A qe ab λA=>?_;refine sdk (v:=bV true) A λA=>?_;refine sda A λA=>?_;refine qr1 ac hret A ?_;exact⟨by rw[zxg,gv aa',gv ab']; rfl,M.bel⟩
  ·have ab':=f6 ab;refine sdc A qe ab λA=>?_;refine sdk (v:=bV false) A λA=>?_;refine sda A λA=>?_;refine qr1 ac hret A ?_;exact⟨by rw[zxg,gv aa',gn ab']; rfl,M.bel⟩
 ·have aa':=f6 aa;refine sdc A qe aa λA=>?_;refine sdm A λA=>?_;iterate 3 refine sks A λA=>?_
  refine sdk (v:=bV false) A λA=>?_;refine sda A λA=>?_;refine qr1 ac hret A ?_;exact⟨by rw[zxg,gn aa']; rfl,M.bel⟩
theorem zga{w:World}{da dm:Dt}(ha:da.rd w)(hm:dm.rd w){so2:Option Addr}{ca2:Nat}{is:List Dt}(hRi:Rt w so2 is)(hDi:∀t∈is,t.rd w)(hba:da.tr.bulk≤100000000)(hbm:dm.tr.bulk≤100000000)(hbi:Tr.bulks (is.map Dt.tr)≤300000000)(hT:Tabs8 w){v:Bool}:Calls Tryz.prog 5 #[.agg (da.d.cells da.ts.length).toArray,.agg (dm.d.cells dm.ts.length).toArray,.slice so2 is.length ca2,bV v] w fun e w'=>∃(so':Option Addr) (ca':Nat) (cs:List Sp) (ev:Int),e=.returned (.tuple #[.slice so' cs.length ca',iV ev])∧((cs.map Sp.k,ev)=erS da.tr dm.tr (is.map Dt.tr) v∧PR w' so' cs)∧Below w.heap.size w w':=by
 have M:=Mg.start w;refine wof Tryz.func5 Tryz.ntmps5 fun Q hret hnorm hP a A=>?_;refine wsr fun _ cq=>zj (vs:=(da.d.cells da.ts.length)) (t:=30) A M rfl rfl rfl pg (qx rfl rfl) (by decide) ?_;intro g2 _ M a A;refine zj (vs:=(dm.d.cells dm.ts.length)) (t:=30) A M rfl rfl rfl pg (qx rfl rfl) (by decide) ?_;intro g4 w5 M a A;iterate 2 refine sda A λA=>?_
 refine qwr cq fun _ cr=>sdm A λA=>?_;refine sct A ec (of_any (hRi.below M.bel) (fun t ht=>Dt.keep M.bel _ (hDi t ht)) hbi (hT.below M.bel)) ?_;rintro _ w8 ⟨dl,rfl,⟨hrl,hal,htl⟩,cw⟩;have hLdl:=qha hrl hal;replace M:Mg w w8 (.obj g4 (.cells (dm.d.cells dm.ts.length).toArray 30)::.obj g2 (.cells (da.d.cells da.ts.length).toArray 30)::(made w5 w8++[])):=M.freezeAt 2 (qi (by simp) (qi (by simp) (za zd))) cw;refine⟨_,rfl,?_⟩;intro a A;refine zj (vs:=(zb.d.cells zb.ts.length)) (t:=30) A M rfl rfl rfl pg (qm (z:=.agg (zb.d.cells zb.ts.length).toArray) (by kernel_rfl) rfl) (by decide) ?_;intro g9 _ M a A;refine qt A M rfl rfl (qj rfl rfl rfl (by kernel_rfl) M 0 rfl rfl rfl) 0 rfl rfl rfl ?_;intro _ M;refine qa (cr _ _ (wsk fun _ ax=>wsr fun _ ai=>sdo A (qz M zv rfl 2 rfl (cs:=(da.d.cells da.ts.length)) rfl rfl) λA=>?_));rcases tf (qs qh da.tr)with ae|ae
 ·refine gcl A M ec ((ae▸vh (t:=da) (Dt.keep M.bel _ ha) (hT.below M.bel))) fun _ _ M a A=>?_;refine sdm A λA=>?_;refine sdo A (qz M zv rfl 1 rfl (cs:=(dm.d.cells dm.ts.length)) rfl rfl) λA=>?_;rcases tf (qs qh dm.tr)with af|af
  ·refine gcl A M ec ((af▸vh (t:=dm) (Dt.keep M.bel _ hm) (hT.below M.bel))) fun _ _ M a A=>?_;refine sdk (v:=bV false) A λA=>?_;refine sdm A λA=>?_;refine sdo A (qz M zv rfl 0 rfl (cs:=(dl.d.cells dl.ts.length)) rfl rfl) λA=>?_;rcases tf (qs qh dl.tr)with ag|ag
   ·refine gcl A M ec ((ag▸vh (t:=dl) (hLdl _ _ ((M.dropn 3).sub (List.sublist_append_left _ _))) (hT.below M.bel))) fun _ _ M a A=>?_;refine sdk (v:=bV false) A λA=>?_;refine qcf ai A ?_;refine wp_skip (ax _ _ (wsr fun _ ay=>sdo (v:=.agg #[iV 4,.slice none 0 0]) A (qn rfl (fun w=>by kernel_rfl)) λA=>?_));refine jr (e:=65) (sz:=2) (m:=1) (vs:=jb Sp.c [(Sp.mk 4 none 0 [])]) A M rfl rfl rfl (qg rfl (by kernel_rfl)) rfl rfl (.inl (by decide)) ?_;intro g24 cx M a A;refine sda A λA=>?_;refine qwk ay fun cy az=>?_;have am:∀a w1,(Sl a 47 [(0,.agg (da.d.cells da.ts.length).toArray),(1,.agg (dm.d.cells dm.ts.length).toArray),(2,.slice so2 is.length ca2),(4,pA g2 0),(5,pA g4 0),(8,.slice none 0 0),(9,iV 0),(10,pA g9 0),(11,.slice (aO g24) 1 1),(12,.slice so2 is.length ca2),(13,.agg (dl.d.cells dl.ts.length).toArray),(14,.agg (da.d.cells da.ts.length).toArray),(15,bV false),(16,bV false),(17,.agg (dm.d.cells dm.ts.length).toArray),(18,bV false),(19,bV false),(20,bV false),(21,.agg (dl.d.cells dl.ts.length).toArray),(22,bV false),(23,bV false),(24,.agg #[iV 4,.slice none 0 0]),(25,.slice (aO g24) 1 1)]∧Mg w w1 (.row 65 2 (.slice (aO g24) 1 1) 1 (jb Sp.c [(Sp.mk (if v=true then 6 else 4) none 0 [])])::.obj g9 (.cells (dl.d.cells dl.ts.length).toArray 30)::.obj g4 (.cells (dm.d.cells dm.ts.length).toArray 30)::.obj g2 (.cells (da.d.cells da.ts.length).toArray 30)::(made w5 w8++[])))→cy a w1:=by
     clear A M;rintro a _ ⟨A,M⟩;refine az _ _ (wsk fun _ ap=>wsr fun _ aq=>sdo A (qz M zv rfl 3 rfl (cs:=(da.d.cells da.ts.length)) rfl rfl) λA=>?_);rcases tf (isF da.tr)with ah|ah
     ·refine gcl A M ec ((ah▸qtg)) fun bd _ M a A=>?_;refine sdu A λA=>?_;refine qcf aq A ?_;refine wp_skip (ap _ _ (wsk fun _ bf=>xg (S:=fun w1=>Mg w w1 (.obj g9 (.cells (dl.d.cells dl.ts.length).toArray 30)::.obj g4 (.cells (dm.d.cells dm.ts.length).toArray 30)::[])) (by kernel_rfl) ?_));replace M:=M.drew;refine atk A 0 rfl hP (M.sub (cN (cC (cC (cN ns))))) (λ_ M=>zr rfl) λA=>?_;refine atk A 1 rfl hP (M.sub (cN (cC (cC (cN ns))))) (λ_ M=>qz M zv rfl 1 rfl (cs:=(dm.d.cells dm.ts.length)) rfl rfl) λA=>?_;refine atk A 4 rfl hP (M.sub (cN (cC (cC (cN ns))))) (λ_ M=>qz M zv rfl 0 rfl (cs:=(dl.d.cells dl.ts.length)) rfl rfl) λA=>?_;refine zn (by kernel_rfl) (jc A 2 rfl rfl rfl rfl ec (qcj dm (Dt.keep M.bel _ hm) (by omega)) ?_);rintro _ au ⟨m2,rfl,⟨hrm2,ham2,htm2⟩,bg⟩;have hLm2:=qha hrm2 ham2;replace M:Mg w au (.row 65 2 (.slice (aO g24) 1 1) 1 (jb Sp.c [(Sp.mk (if v=true then 6 else 4) none 0 [])])::.obj g9 (.cells (dl.d.cells dl.ts.length).toArray 30)::.obj g4 (.cells (dm.d.cells dm.ts.length).toArray 30)::.obj g2 (.cells (da.d.cells da.ts.length).toArray 30)::(made bd.drew au++(made w5 w8++[]))):=M.freezeAt 4 (qi (by simp) (qi (by simp) (qi (by simp) (qi (by simp) (xe xp (za zd)))))) bg;refine⟨_,rfl,(M.sub (cN (cC (cC (cN ns))))),?_⟩;intro a A;refine zn (by kernel_rfl) (jc A 3 rfl rfl rfl rfl ec (kz) ?_);rintro _ _ ⟨ab,rfl,bh⟩;replace M:=(M.both bh (qi (by simp) (qi (by simp) (qi (by simp) (qi (by simp) (xe xp (xe xp (za zd))))))) (qi (by simp) (za zd)));refine⟨_,rfl,(M.sub (cN (cN (cC (cC (cN ns)))))),?_⟩;intro a A
      refine zn (by kernel_rfl) (jc A 5 rfl rfl rfl rfl ec (kz) ?_);rintro _ _ ⟨ac,rfl,bi⟩;replace M:=(M.both bi (qi (by simp) (qi (by simp) (qi (by simp) (qi (by simp) (qi (by simp) (xe xp (xe xp (za zd)))))))) (qi (by simp) (za zd)));refine⟨_,rfl,(M.sub (cN (cN (cN (cC (cC (cN ns))))))),?_⟩;intro a A;refine zn (by kernel_rfl) (xdg (e:=65) (sz:=2) (m:=2) (vs:=jb Sp.c [(Sp.mk 1 (aO ab) 1 [m2]),(Sp.mk 7 (aO ac) 1 [dl])]) A M 6 rfl rfl rfl rfl (qg rfl (by kernel_rfl)) rfl rfl (.inl (by decide)) ?_);intro g42 _ M;refine⟨(M.sub (cN (cN (cN (cN (cC (cC (cN ns)))))))),?_⟩;intro a A
      refine zn (by kernel_rfl) (zob (e:=65) (sz:=2) (k:=3) (q:=1) (m:=2) (xs:=jb Sp.c [(Sp.mk (if v=true then 6 else 4) none 0 [])]) (news:=jb Sp.c [(Sp.mk 1 (aO ab) 1 [m2]),(Sp.mk 7 (aO ac) 1 [dl])]) (L':=fun bj=>(.row 65 2 (.slice (aO g42) 2 2) 2 (jb Sp.c [(Sp.mk 1 (aO ab) 1 [m2]),(Sp.mk 7 (aO ac) 1 [dl])])::.row 30 11 (.slice (aO ac) 1 1) 1 (cellsOf [dl])::.row 30 11 (.slice (aO ab) 1 1) 1 (cellsOf [m2])::.row 65 2 (bj) (1+2) (jb Sp.c [(Sp.mk (if v=true then 6 else 4) none 0 [])]++jb Sp.c [(Sp.mk 1 (aO ab) 1 [m2]),(Sp.mk 7 (aO ac) 1 [dl])])::.obj g9 (.cells (dl.d.cells dl.ts.length).toArray 30)::.obj g4 (.cells (dm.d.cells dm.ts.length).toArray 30)::.obj g2 (.cells (da.d.cells da.ts.length).toArray 30)::(made bd.drew au++(made w5 w8++[])))) A 7 rfl rfl rfl rfl (yf (z:=.agg #[iV 0,.slice none 0 0]) (sz:=2) (by_:=32) ic (by kernel_rfl) rfl rfl rfl M 3 rfl rfl rfl rfl (vm (M.has 0 rfl)) (qig _) (by first|omega|(simp only[fv,fw,fx]; omega))) (fun _=>rfl) ?_);intro bj co M;replace M:Mg w co (.row 65 2 (.slice (aO g42) 2 2) 2 (jb Sp.c [(Sp.mk 1 (aO ab) 1 [m2]),(Sp.mk 7 (aO ac) 1 [dl])])::.row 30 11 (.slice (aO ac) 1 1) 1 (cellsOf [dl])::.row 30 11 (.slice (aO ab) 1 1) 1 (cellsOf [m2])::.row 65 2 (bj) (([(Sp.mk (if v=true then 6 else 4) none 0 [])]++[(Sp.mk 1 (aO ab) 1 [m2]),(Sp.mk 7 (aO ac) 1 [dl])]).length) (jb Sp.c ([(Sp.mk (if v=true then 6 else 4) none 0 [])]++[(Sp.mk 1 (aO ab) 1 [m2]),(Sp.mk 7 (aO ac) 1 [dl])]))::.obj g9 (.cells (dl.d.cells dl.ts.length).toArray 30)::.obj g4 (.cells (dm.d.cells dm.ts.length).toArray 30)::.obj g2 (.cells (da.d.cells da.ts.length).toArray 30)::(made bd.drew au++(made w5 w8++[]))):=by
       rw[vu,fv]; exact M
      obtain⟨bn,bp,rfl⟩:=xu (M.has 3 rfl);refine⟨(M.sub (cN (cN (cN (cN (cC (cC (cN ns)))))))),?_⟩;intro a A;refine atk A 8 rfl hP (M.sub (cN (cN (cN (cN (cC (cC (cN ns)))))))) (λ_ M=>ji rfl) λA=>?_;refine atk A 9 rfl hP (M.sub (cN (cN (cN (cN (cC (cC (cN ns)))))))) (λ_ M=>ji rfl) λA=>?_;refine jl (by kernel_rfl) ?_;refine bf _ _ (wp_ret (hret _ _ (en2 A rfl (qf rfl) (qf rfl) ?_)));have hps:∀p∈[(Sp.mk (if v=true then 6 else 4) none 0 []),(Sp.mk 1 (aO ab) 1 [m2]),(Sp.mk 7 (aO ac) 1 [dl])],SpR co p:=by
       intro p hp;simp only[ik,List.not_mem_nil,or_false]at hp;rcases hp with h9|h9|h9<;>subst h9
       ·exact⟨fun h=>absurd rfl h,fun t h=>by cases h⟩
       ·exact⟨(kv (M.has 2 rfl)).1,fun t ht=>by rw[iq.1 ht]; exact(hLm2 _ _ ((M.dropn 7).sub (List.sublist_append_left _ _)))⟩
       ·exact⟨(kv (M.has 1 rfl)).1,fun t ht=>by rw[iq.1 ht]; exact(hLdl _ _ ((M.dropn 7).sub ((List.sublist_append_left _ _).trans (List.sublist_append_right _ _))))⟩
      exact⟨bn,bp,[(Sp.mk (if v=true then 6 else 4) none 0 []),(Sp.mk 1 (aO ab) 1 [m2]),(Sp.mk 7 (aO ac) 1 [dl])],0,rfl,⟨by rw[xeb ae af (htl▸ag) ah,←htl,←htm2]; rcases v with _|_<;>rfl,⟨vm (M.has 3 rfl),hps⟩⟩,M.bel⟩
     ·refine gcl A M ec ((ah▸qtg)) fun ar _ M a A=>?_;refine sdu A λA=>?_;refine qct aq A ?_;refine wrl (sdm A λA=>?_);refine sdo A (qz M zv rfl 3 rfl (cs:=(da.d.cells da.ts.length)) rfl rfl) λA=>?_;refine sct A ec (qcj da (Dt.keep M.bel _ ha) (by omega)) ?_;rintro _ ak ⟨a2,rfl,⟨hra2,haa2,hta2⟩,bq⟩;have hLa2:=qha hra2 haa2;replace M:Mg w ak (.row 65 2 (.slice (aO g24) 1 1) 1 (jb Sp.c [(Sp.mk (if v=true then 6 else 4) none 0 [])])::.obj g9 (.cells (dl.d.cells dl.ts.length).toArray 30)::.obj g4 (.cells (dm.d.cells dm.ts.length).toArray 30)::.obj g2 (.cells (da.d.cells da.ts.length).toArray 30)::(made ar ak++(made w5 w8++[]))):=M.freezeAt 4 (qi (by simp) (qi (by simp) (qi (by simp) (qi (by simp) (xe xp (za zd)))))) bq;refine⟨_,rfl,?_⟩;intro a A;refine sct A ec (kz) ?_;rintro _ _ ⟨aa,rfl,br⟩;replace M:=(M.both br (qi (by simp) (qi (by simp) (qi (by simp) (qi (by simp) (xe xp (xe xp (za zd))))))) (qi (by simp) (za zd)));refine⟨_,rfl,?_⟩;intro a A;refine jr (e:=65) (sz:=2) (m:=1) (vs:=jb Sp.c [(Sp.mk 8 (aO aa) 1 [a2])]) A M rfl rfl rfl (qg rfl (by kernel_rfl)) rfl rfl (.inl (by decide)) ?_;intro g54 _ M a A;refine xd (e:=65) (sz:=2) (k:=2) (q:=1) (m:=1) (xs:=jb Sp.c [(Sp.mk (if v=true then 6 else 4) none 0 [])]) (news:=jb Sp.c [(Sp.mk 8 (aO aa) 1 [a2])]) A rfl rfl rfl (yf (z:=.agg #[iV 0,.slice none 0 0]) (sz:=2) (by_:=32) ic (by kernel_rfl) rfl rfl rfl M 2 rfl rfl rfl rfl (vm (M.has 0 rfl)) (qig [(Sp.mk 8 (aO aa) 1 [a2])]) (by first|omega|(simp only[fx]; omega))) (fun _=>rfl) ?_
      intro cz av M a A;replace M:Mg w av (.row 65 2 (.slice (aO g54) 1 1) 1 (jb Sp.c [(Sp.mk 8 (aO aa) 1 [a2])])::.row 30 11 (.slice (aO aa) 1 1) 1 (cellsOf [a2])::.row 65 2 (cz) (([(Sp.mk (if v=true then 6 else 4) none 0 [])]++[(Sp.mk 8 (aO aa) 1 [a2])]).length) (jb Sp.c ([(Sp.mk (if v=true then 6 else 4) none 0 [])]++[(Sp.mk 8 (aO aa) 1 [a2])]))::.obj g9 (.cells (dl.d.cells dl.ts.length).toArray 30)::.obj g4 (.cells (dm.d.cells dm.ts.length).toArray 30)::.obj g2 (.cells (da.d.cells da.ts.length).toArray 30)::(made ar ak++(made w5 w8++[]))):=by
       rw[vu,fv]; exact M
      obtain⟨bw,bz,rfl⟩:=xu (M.has 2 rfl);refine sda A λA=>?_;refine qwk ap fun _ cc=>xg (S:=fun w1=>Mg w w1 (.obj g9 (.cells (dl.d.cells dl.ts.length).toArray 30)::.obj g4 (.cells (dm.d.cells dm.ts.length).toArray 30)::[])) (by kernel_rfl) ?_;replace M:=M.drew;refine atk A 0 rfl hP (M.sub (cN (cN (cN (cC (cC (cN ns))))))) (λ_ M=>zr rfl) λA=>?_;refine atk A 1 rfl hP (M.sub (cN (cN (cN (cC (cC (cN ns))))))) (λ_ M=>qz M zv rfl 1 rfl (cs:=(dm.d.cells dm.ts.length)) rfl rfl) λA=>?_;refine atk A 4 rfl hP (M.sub (cN (cN (cN (cC (cC (cN ns))))))) (λ_ M=>qz M zv rfl 0 rfl (cs:=(dl.d.cells dl.ts.length)) rfl rfl) λA=>?_;refine zn (by kernel_rfl) (jc A 2 rfl rfl rfl rfl ec (qcj dm (Dt.keep M.bel _ hm) (by omega)) ?_);rintro _ aw ⟨m2,rfl,⟨hrm2,ham2,htm2⟩,cd⟩;have hLm2:=qha hrm2 ham2;replace M:Mg w aw (.row 65 2 (.slice (aO g54) 1 1) 1 (jb Sp.c [(Sp.mk 8 (aO aa) 1 [a2])])::.row 30 11 (.slice (aO aa) 1 1) 1 (cellsOf [a2])::.row 65 2 (.slice bw (([(Sp.mk (if v=true then 6 else 4) none 0 [])]++[(Sp.mk 8 (aO aa) 1 [a2])]).length) bz) (([(Sp.mk (if v=true then 6 else 4) none 0 [])]++[(Sp.mk 8 (aO aa) 1 [a2])]).length) (jb Sp.c ([(Sp.mk (if v=true then 6 else 4) none 0 [])]++[(Sp.mk 8 (aO aa) 1 [a2])]))::.obj g9 (.cells (dl.d.cells dl.ts.length).toArray 30)::.obj g4 (.cells (dm.d.cells dm.ts.length).toArray 30)::.obj g2 (.cells (da.d.cells da.ts.length).toArray 30)::(made av.drew aw++(made ar ak++(made w5 w8++[])))):=M.freezeAt 6 (qi (by simp) (qi (by simp) (qi (by simp) (qi (by simp) (qi (by simp) (qi (by simp) (xe xp (xe xp (za zd))))))))) cd;refine⟨_,rfl,(M.sub (cN (cN (cN (cC (cC (cN ns))))))),?_⟩;intro a A;refine zn (by kernel_rfl) (jc A 3 rfl rfl rfl rfl ec (kz) ?_);rintro _ _ ⟨ab,rfl,ce⟩
      replace M:=(M.both ce (qi (by simp) (qi (by simp) (qi (by simp) (qi (by simp) (qi (by simp) (qi (by simp) (xe xp (xe xp (xe xp (za zd)))))))))) (qi (by simp) (za zd)));refine⟨_,rfl,(M.sub (cN (cN (cN (cN (cC (cC (cN ns)))))))),?_⟩;intro a A;refine zn (by kernel_rfl) (jc A 5 rfl rfl rfl rfl ec (kz) ?_);rintro _ _ ⟨ac,rfl,cg⟩
      replace M:=(M.both cg (qi (by simp) (qi (by simp) (qi (by simp) (qi (by simp) (qi (by simp) (qi (by simp) (qi (by simp) (xe xp (xe xp (xe xp (za zd))))))))))) (qi (by simp) (za zd)));refine⟨_,rfl,(M.sub (cN (cN (cN (cN (cN (cC (cC (cN ns))))))))),?_⟩;intro a A;refine zn (by kernel_rfl) (xdg (e:=65) (sz:=2) (m:=2) (vs:=jb Sp.c [(Sp.mk 1 (aO ab) 1 [m2]),(Sp.mk 7 (aO ac) 1 [dl])]) A M 6 rfl rfl rfl rfl (qg rfl (by kernel_rfl)) rfl rfl (.inl (by decide)) ?_);intro g67 _ M;refine⟨(M.sub (cN (cN (cN (cN (cN (cN (cC (cC (cN ns)))))))))),?_⟩;intro a A
      refine zn (by kernel_rfl) (zob (e:=65) (sz:=2) (k:=5) (q:=([(Sp.mk (if v=true then 6 else 4) none 0 [])]++[(Sp.mk 8 (aO aa) 1 [a2])]).length) (m:=2) (xs:=jb Sp.c ([(Sp.mk (if v=true then 6 else 4) none 0 [])]++[(Sp.mk 8 (aO aa) 1 [a2])])) (news:=jb Sp.c [(Sp.mk 1 (aO ab) 1 [m2]),(Sp.mk 7 (aO ac) 1 [dl])]) (L':=fun ch=>(.row 65 2 (.slice (aO g67) 2 2) 2 (jb Sp.c [(Sp.mk 1 (aO ab) 1 [m2]),(Sp.mk 7 (aO ac) 1 [dl])])::.row 30 11 (.slice (aO ac) 1 1) 1 (cellsOf [dl])::.row 30 11 (.slice (aO ab) 1 1) 1 (cellsOf [m2])::.row 65 2 (.slice (aO g54) 1 1) 1 (jb Sp.c [(Sp.mk 8 (aO aa) 1 [a2])])::.row 30 11 (.slice (aO aa) 1 1) 1 (cellsOf [a2])::.row 65 2 (ch) (([(Sp.mk (if v=true then 6 else 4) none 0 [])]++[(Sp.mk 8 (aO aa) 1 [a2])]).length+2) (jb Sp.c ([(Sp.mk (if v=true then 6 else 4) none 0 [])]++[(Sp.mk 8 (aO aa) 1 [a2])])++jb Sp.c [(Sp.mk 1 (aO ab) 1 [m2]),(Sp.mk 7 (aO ac) 1 [dl])])::.obj g9 (.cells (dl.d.cells dl.ts.length).toArray 30)::.obj g4 (.cells (dm.d.cells dm.ts.length).toArray 30)::.obj g2 (.cells (da.d.cells da.ts.length).toArray 30)::(made av.drew aw++(made ar ak++(made w5 w8++[]))))) A 7 rfl rfl rfl rfl (yf (z:=.agg #[iV 0,.slice none 0 0]) (sz:=2) (by_:=32) ic (by kernel_rfl) rfl rfl rfl M 5 rfl rfl rfl rfl (vm (M.has 0 rfl)) (qig _) (by first|omega|(simp only[fv,fw,fx]; omega))) (fun _=>rfl) ?_);intro ch cp M
      replace M:Mg w cp (.row 65 2 (.slice (aO g67) 2 2) 2 (jb Sp.c [(Sp.mk 1 (aO ab) 1 [m2]),(Sp.mk 7 (aO ac) 1 [dl])])::.row 30 11 (.slice (aO ac) 1 1) 1 (cellsOf [dl])::.row 30 11 (.slice (aO ab) 1 1) 1 (cellsOf [m2])::.row 65 2 (.slice (aO g54) 1 1) 1 (jb Sp.c [(Sp.mk 8 (aO aa) 1 [a2])])::.row 30 11 (.slice (aO aa) 1 1) 1 (cellsOf [a2])::.row 65 2 (ch) ((([(Sp.mk (if v=true then 6 else 4) none 0 [])]++[(Sp.mk 8 (aO aa) 1 [a2])])++[(Sp.mk 1 (aO ab) 1 [m2]),(Sp.mk 7 (aO ac) 1 [dl])]).length) (jb Sp.c (([(Sp.mk (if v=true then 6 else 4) none 0 [])]++[(Sp.mk 8 (aO aa) 1 [a2])])++[(Sp.mk 1 (aO ab) 1 [m2]),(Sp.mk 7 (aO ac) 1 [dl])]))::.obj g9 (.cells (dl.d.cells dl.ts.length).toArray 30)::.obj g4 (.cells (dm.d.cells dm.ts.length).toArray 30)::.obj g2 (.cells (da.d.cells da.ts.length).toArray 30)::(made av.drew aw++(made ar ak++(made w5 w8++[])))):=by
       rw[vu,fv]; exact M
      obtain⟨ci,cj,rfl⟩:=xu (M.has 5 rfl);refine⟨(M.sub (cN (cN (cN (cN (cN (cN (cC (cC (cN ns)))))))))),?_⟩;intro a A;refine atk A 8 rfl hP (M.sub (cN (cN (cN (cN (cN (cN (cC (cC (cN ns)))))))))) (λ_ M=>ji rfl) λA=>?_;refine atk A 9 rfl hP (M.sub (cN (cN (cN (cN (cN (cN (cC (cC (cN ns)))))))))) (λ_ M=>ji rfl) λA=>?_;refine jl (by kernel_rfl) ?_;refine cc _ _ (wp_ret (hret _ _ (en2 A rfl (qf rfl) (qf rfl) ?_)));have hps:∀p∈[(Sp.mk (if v=true then 6 else 4) none 0 []),(Sp.mk 8 (aO aa) 1 [a2]),(Sp.mk 1 (aO ab) 1 [m2]),(Sp.mk 7 (aO ac) 1 [dl])],SpR cp p:=by
       intro p hp;simp only[ik,List.not_mem_nil,or_false]at hp;rcases hp with h9|h9|h9|h9<;>subst h9
       ·exact⟨fun h=>absurd rfl h,fun t h=>by cases h⟩
       ·exact⟨(kv (M.has 4 rfl)).1,fun t ht=>by rw[iq.1 ht]; exact(hLa2 _ _ ((M.dropn 9).sub ((List.sublist_append_left _ _).trans (List.sublist_append_right _ _))))⟩
       ·exact⟨(kv (M.has 2 rfl)).1,fun t ht=>by rw[iq.1 ht]; exact(hLm2 _ _ ((M.dropn 9).sub (List.sublist_append_left _ _)))⟩
       ·exact⟨(kv (M.has 1 rfl)).1,fun t ht=>by rw[iq.1 ht]; exact(hLdl _ _ ((M.dropn 9).sub (((List.sublist_append_left _ _).trans (List.sublist_append_right _ _)).trans (List.sublist_append_right _ _))))⟩
      exact⟨ci,cj,[(Sp.mk (if v=true then 6 else 4) none 0 []),(Sp.mk 8 (aO aa) 1 [a2]),(Sp.mk 1 (aO ab) 1 [m2]),(Sp.mk 7 (aO ac) 1 [dl])],0,rfl,⟨by rw[job ae af (htl▸ag) ah,←htl,←hta2,←htm2]; rcases v with _|_<;>rfl,⟨vm (M.has 5 rfl),hps⟩⟩,M.bel⟩
    refine wsr fun _ ck=>sdm A λA=>?_;refine qa (ck _ _ ?_);refine wp_cond_split (t:=v) (A.ev rfl) (fun aj=>?_) (fun aj=>?_)
    ·refine wrl (sdm A λA=>?_);refine sdo (v:=pA g24 0) A (qaa (k:=0) (sz:=2) ic (by kernel_rfl) rfl rfl rfl Nat.zero_lt_one) λA=>?_;refine sdf A 0 qch λA=>?_;refine zeh (cs:=[iV 6]) A M rfl rfl (zoc rfl rfl rfl (by kernel_rfl) M 0 rfl (by decide) rfl) 0 rfl rfl rfl ?_;intro db M _;refine qa ?_;replace M:Mg w db (.row 65 2 (.slice (aO g24) 1 1) 1 (jb Sp.c [(Sp.mk (if v=true then 6 else 4) none 0 [])])::.obj g9 (.cells (dl.d.cells dl.ts.length).toArray 30)::.obj g4 (.cells (dm.d.cells dm.ts.length).toArray 30)::.obj g2 (.cells (da.d.cells da.ts.length).toArray 30)::(made w5 w8++[])):=(by rw[gj aj]; exact M);exact am _ _ ⟨A.keep _ (by repeat' constructor),M⟩
    ·refine wp_skip ?_;replace M:Mg w cx (.row 65 2 (.slice (aO g24) 1 1) 1 (jb Sp.c [(Sp.mk (if v=true then 6 else 4) none 0 [])])::.obj g9 (.cells (dl.d.cells dl.ts.length).toArray 30)::.obj g4 (.cells (dm.d.cells dm.ts.length).toArray 30)::.obj g2 (.cells (da.d.cells da.ts.length).toArray 30)::(made w5 w8++[])):=(by rw[f7 (by rw[aj]; decide)]; exact M);exact am _ _ ⟨A.keep _ (by repeat' constructor),M⟩
   ·refine gcl A M ec ((ag▸vh (t:=dl) (hLdl _ _ ((M.dropn 3).sub (List.sublist_append_left _ _))) (hT.below M.bel))) fun _ _ M a A=>?_;refine sdk (v:=bV true) A λA=>?_;refine qct ai A ?_;refine wsr fun _ cl=>?_;iterate 2 refine sda A λA=>?_
    refine qa (cl _ _ (wp_ret (hret _ _ (en2 A rfl (qf rfl) (qf rfl) ?_))));exact⟨none,0,[],2,rfl,⟨(qrd (fun h=>by rw[←htl]at h; have h9:=h.2.2; rw[ag]at h9; cases h9)).symm,⟨fun h=>absurd rfl h,fun p h=>by cases h⟩⟩,M.bel⟩
  ·refine gcl A M ec ((af▸vh (t:=dm) (Dt.keep M.bel _ hm) (hT.below M.bel))) fun _ _ M a A=>?_;refine sdk (v:=bV true) A λA=>?_;refine sdm A λA=>?_;iterate 2 refine sks A λA=>?_
   refine sdk (v:=bV true) A λA=>?_;refine qct ai A ?_;refine wsr fun _ cm=>?_;iterate 2 refine sda A λA=>?_
   refine qa (cm _ _ (wp_ret (hret _ _ (en2 A rfl (qf rfl) (qf rfl) ?_))));exact⟨none,0,[],2,rfl,⟨(qrd (fun h=>by have h9:=h.2.1; rw[af]at h9; cases h9)).symm,⟨fun h=>absurd rfl h,fun p h=>by cases h⟩⟩,M.bel⟩
 ·refine gcl A M ec ((ae▸vh (t:=da) (Dt.keep M.bel _ ha) (hT.below M.bel))) fun _ _ M a A=>?_;refine sdm A λA=>?_;iterate 2 refine sks A λA=>?_
  refine sdk (v:=bV true) A λA=>?_;refine sdm A λA=>?_;iterate 2 refine sks A λA=>?_
  refine sdk (v:=bV true) A λA=>?_;refine qct ai A ?_;refine wsr fun _ cn=>?_;iterate 2 refine sda A λA=>?_
  refine qa (cn _ _ (wp_ret (hret _ _ (en2 A rfl (qf rfl) (qf rfl) ?_))));exact⟨none,0,[],2,rfl,⟨(qrd (fun h=>by have h9:=h.1; rw[ae]at h9; cases h9)).symm,⟨fun h=>absurd rfl h,fun p h=>by cases h⟩⟩,M.bel⟩
end Go.Proofs.YtmnlfahgklnpeaaGreatDoor.G
namespace Go.Proofs
open Go.Shelf
def Tryz.lays240_ren: Go.Shelf.Ren:=⟨fun|240=>68|276=>101|n=>n,fun|70=>69|0=>0|72=>71|4=>4|164=>145|37=>27|5=>5|9=>9|20=>20|n=>n,fun|n=>n⟩
theorem Tryz.lays240: Go.Proofs.Lays.n240 Tryz.prog Tryz.lays240_ren:={
  mixed:=by kernel_rfl
  f240:=Tryz.func68.trans (congrArg some (by kernel_rfl))
  f276:=Tryz.func101.trans (congrArg some (by kernel_rfl))
  t0:=Tryz.underlying0
  a0:=Tryz.isAgg0
  z0:=Tryz.sizeOf0
  v0:=Tryz.zeroValue0
  t4:=Tryz.underlying4
  a4:=Tryz.isAgg4
  z4:=Tryz.sizeOf4
  v4:=Tryz.zeroValue4
  t9:=Tryz.underlying9
  a9:=Tryz.isAgg9
  z9:=Tryz.sizeOf9
  v9:=Tryz.zeroValue9
  t20:=Tryz.underlying20
  a20:=Tryz.isAgg20
  z20:=Tryz.sizeOf20
  v20:=Tryz.zeroValue20
  t70:=Tryz.underlying69
  a70:=Tryz.isAgg69
  z70:=Tryz.sizeOf69
  v70:=Tryz.zeroValue69
  t72:=Tryz.underlying71
  a72:=Tryz.isAgg71
  z72:=Tryz.sizeOf71
  v72:=Tryz.zeroValue71
  t164:=Tryz.underlying145
  a164:=Tryz.isAgg145
  z164:=Tryz.sizeOf145
  v164:=Tryz.zeroValue145 }
theorem Tryz.Builder_X72_240: Builder.X72 Tryz.prog Tryz.lays240_ren:={
  sizeBuilder:=by kernel_rfl
  liesBuilder:=by kernel_rfl }
end Go.Proofs
namespace Go.Proofs.YtmnlfahgklnpeaaGreatDoor.G
open Go.RowKit Go.Shelf

theorem jeb{w:World}{gw:Nat}(h0:w.cell? ⟨gw,0,none⟩=some (.pointer (some ⟨gw,0,none⟩))):Calls Tryz.prog 68 #[.pointer (some ⟨gw,0,none⟩)] w fun e w'=>e=.returned (.tuple #[])∧w'=w:=
  Any.Builder_copyCheck_used Tryz.lays240 Tryz.Builder_X72_240 gw w h0
theorem jof{w:World}{gw:Nat}(h0:w.cell? ⟨gw,0,none⟩=some (.pointer none))(hsh:w.shape? gw=some (182,3))(hfz:w.frozen? ⟨gw,0,none⟩=false):Calls Tryz.prog 68 #[.pointer (some ⟨gw,0,none⟩)] w fun e w'=>e=.returned (.tuple #[])∧w'=w.setCell ⟨gw,0,none⟩ (.pointer (some ⟨gw,0,none⟩)):=by
  obtain⟨j,hj,hjs⟩:=Option.map_eq_some_iff.1 Tryz.Builder_X72_240.sizeBuilder
  go_enter Tryz.func68,Tryz.ntmps68
  go_wp2
  rw[Lib.run_to_unsafe w ⟨gw,0,none⟩ Tryz.underlying69 Tryz.underlying145 hj (by rw[hjs]; decide) hsh (Nat.zero_lt_succ 2)];simp only[Result.andThen];rw[Oper.upon_value]
  go_wp2
  rw[run_callFunc_extern Tryz.func101 (by kernel_rfl) (by kernel_rfl) (by kernel_rfl) (e:=Extern.AbiNoEscape.same) (by kernel_rfl)];rw[Lib.run_noEscape];simp only[Result.andThen];rw[Oper.upon_value]
  go_wp2
  rw[Lib.run_from_unsafe w ⟨gw,0,none⟩ Tryz.underlying145 Tryz.underlying69 hj hsh (by kernel_rfl)];simp only[Result.andThen];rw[Oper.upon_value]
  go_wp2
  go_end0
  exact⟨rfl,rfl⟩
theorem zxh{w0 w:World}{gw:Nat}{p v:Value}{pl:Bool}{L:List Ck}(hp:p=.pointer none∨p=.pointer (some ⟨gw,0,none⟩))(hM:Mg w0 w (.obj gw (.cells #[p,v,.bool pl] 182)::L)):Calls Tryz.prog 68 #[.pointer (some ⟨gw,0,none⟩)] w fun e w'=>e=.returned (.tuple #[])∧Mg w0 w' (.obj gw (.cells #[.pointer (some ⟨gw,0,none⟩),v,.bool pl] 182)::L):=by
  have hc:=hM.cell 0 (vs:=[p,v,.bool pl]) rfl 0 rfl;rcases hp with rfl|rfl
  · have hb:=hM.obj 0 rfl;refine(jof hc (by simp[World.shape?,hb]) (hM.froz 0 (vs:=[_,_,_]) rfl 0)).mono ?_;rintro e w' ⟨rfl,rfl⟩;exact⟨rfl,hM.put 0 (vs:=[_,v,.bool pl]) rfl 0 _⟩
  · refine(jeb hc).mono ?_;rintro e w' ⟨rfl,rfl⟩;exact⟨rfl,hM⟩
theorem qth{B:Nat}{w0 w:World}(h:Below B w0 w){g:Nat}(hg:B≤g)(n:Nat):Below B w0 (w.freeze ⟨g,0,none⟩ n):=Lib.below_freeze h (p:=⟨g,0,none⟩) hg n
theorem xaa{w:World}{B gw g cap:Nat}{p q:Value}{l:List UInt8}{cur:Array Value}(h0:l≠[])(hbk:w.heap[gw]?=some (.cells #[p,.slice (some ⟨g,0,none⟩) l.length cap,q] 182 (0,0)))(hg:w.heap[g]?=some (.cells cur 5 (0,0)))(hcap:l.length≤cap)(hmax:l.length≤9223372036854775807)(hB:B≤g)
    (hcs:∀j x,l[j]?=some x→w.cell? ⟨g,j,none⟩=some (.int .u8 ((x:UInt8).toNat:Nat))) (hsz:l.length≤cur.size):Calls Tryz.prog 39 #[.pointer (some ⟨gw,0,none⟩)] w fun e w'=>e=.returned (.string ⟨l.toArray⟩)∧Below B w w':=by
  have _:l.length≠0:=by simpa using h0
  have mixed:Tryz.prog.follows .mixedOrders=true:=by kernel_rfl
  have c1:w.drew.cell? ⟨gw,1,none⟩=some (.slice (some ⟨g,0,none⟩) l.length cap):=by
    have:w.drew.heap[gw]?=some (.cells #[p,.slice (some ⟨g,0,none⟩) l.length cap,q] 182 (0,0)):=hbk;rw[Lib.cell_of_heap this]; rfl
  have hSD:(Builtin.unsafeSliceData_ #[27] 124 #[.slice (some ⟨g,0,none⟩) l.length cap]).run Tryz.prog w.drew=.ok (.pointer (some ⟨g,0,none⟩)) w.drew:=
    Lib.run_unsafeSliceData_row _ _ _ _ _ _ (by omega)
  have hUS:(Builtin.unsafeString_ #[124,3] 9 #[.pointer (some ⟨g,0,none⟩),.int .i64 l.length]).run Tryz.prog w.drew=.ok (.string ⟨l.toArray⟩) (w.drew.freeze ⟨g,0,none⟩ l.length):=
    Lib.run_unsafeString_row w.drew 124 3 9 5 Tryz.underlying124 (by kernel_rfl) g cur.size (by have hg':w.drew.heap[g]?=some (.cells cur 5 (0,0)):=hg; simp[World.shape?,hg']) l h0 (by omega) (by omega) (fun j x hx=>by rw[jt,Nat.zero_add]; exact hcs j x hx)
  go_enter Tryz.func39,Tryz.ntmps39
  go_wp2
  go_region_o
  all_goals (go_wp2; go_ret; exact⟨rfl,qth (Below.drew (Below.refl B w)) hB _⟩)
theorem zqi{P:Program}(w:World)(base:Nat)(t u ty e:TypeId)(i:TypeInfo)(ht:P.underlying t=some (.slice e))(hu:P.underlying u=some .string)(hi:P.info? e=some i)(hz:i.zero=some (.int .u8 0))(hsize:i.size=1)(hby:i.bytes=1)
    (v:Value) (n:Nat) (xs:List Value) (hown:w.ownsRow base e 1 v n xs) (s:ByteArray) (h63:n+s.size≤140737488355328) (hbase:base≤w.heap.size) :
    ∃v' w',(Builtin.append_ #[t,u] ty #[v,.string s]).run P w=.ok v' w'∧w'.ownsRow base e 1 v' (n+s.size) (xs++Lib.strCells s)∧w.grownBy w' v.ownBlock∧(v'.ownBlock=v.ownBlock∨v'.ownBlock=some w.heap.size):=by
  obtain⟨v',w',hr,h2,h3,h4⟩:=Lib.run_append_own_string (P:=P) w base t u ty e i ht hu hi hz hsize hby v n xs hown s (by unfold maxLen; omega) h63 hbase;refine⟨v',w',hr,h2,h3,?_⟩;rcases hown.2 with⟨rfl,rfl⟩|⟨g,cap,cur,rfl,hbg,hg,hnc,hcm,hcs,htake⟩
  · by_cases hm:s.size=0
    · left; rw[h4.2 ⟨rfl,hm⟩]
    · right;have hr2:=run_append_nil_string (P:=P) w t u ty e i (.int .u8 0) ht hu hi hz s (by omega) (by omega) (by rw[hby]; omega);rw[hr]at hr2;injection hr2 with e1 _;rw[e1]; rfl
  · by_cases hroom:n+s.size≤cap
    · left;have hr2:=Lib.run_append_room_string (P:=P) w t u ty e i ht hu hi hsize g n cap cur hg s hroom (by simp at hcs; omega);rw[hr]at hr2;injection hr2 with e1 _;rw[e1]; rfl
    · right;have hxl:xs.length=n:=(by simpa using hown.1);have hr2:=Lib.run_append_grow_string (P:=P) w t u ty e i (.int .u8 0) ht hu hi hz ⟨g,0,none⟩ n cap xs (by rw[hsize]; simpa using hxl) (hown.cells (g:=g) rfl) s (by omega) (by omega) (by rw[hby]; exact growslice_fits (by omega) (by omega));rw[hr]at hr2;injection hr2 with e1 _;rw[e1]; rfl
section
variable {P:Program} {w0 w:World} {L:List Ck} {l:List (Nat×Value)} {dst:Option Tmp} {ty:TypeId} {pos:String} {after:Array Edge} {guard:Option (Nat×Bool)} {v:Value}
theorem xab{w:World}{B:Nat}{e:TypeId}{v v':Value}{n n':Nat}{xs xs':List Value}{d:Ck}(hd:d.holds B w)(hat:v'.ownBlock=v.ownBlock∨v'.ownBlock=some w.heap.size)(ha:Ap (.row e 1 v n xs) d):Ap (.row e 1 v' n' xs') d:=by
  have hl:=Ck.lt hd;have key:∀z,d.at_=some z→v.ownBlock≠some z→v'.ownBlock≠some z:=fun z hz hne e=>by
    rcases hat with h|h
    · exact hne (h▸e)
    · rw[h]at e;have:=(hl z hz).2;have e2:w.heap.size=z:=io e;omega
  cases d with
  | obj g' o' => exact key g' rfl ha
  | row e' sz' v2 n2 xs2 =>
    by_cases hz:v2.ownBlock=none
    · by_cases hv:v'.ownBlock=none
      · exact .inl hv
      · exact .inr (fun e=>hv (e.trans hz))
    · obtain⟨z,hz⟩:=Option.ne_none_iff_exists'.1 hz;right;rw[hz];refine key z hz ?_;rcases ha with ha|ha
      · rw[ha]; simp
      · exact fun e=>ha (e.trans hz.symm)
  | bld b' bs' => exact ⟨ha.1, key b' rfl ha.2⟩
theorem qti{t u:TypeId}{x y:Operand}(ht:P.underlying t=some (.slice BY))(hu:P.underlying u=some .string)(hinfo:(P.info? BY).map (fun i=>(i.zero,i.size,i.bytes))=some (some (.int .u8 0),1,1))(hM:Mg w0 w L)(k:Nat){q:Nat}{xs:List Value}(hk:L[k]?=some (.row BY 1 v q xs))(hx:ev l x=some v){s:ByteArray}(hy:ev l y=some (.string s))(hlen:q+s.size≤140737488355328):
    ∃v' w',Does P l ⟨dst,.call ⟨.builtin .append,#[x,y],#[t,u]⟩,ty,pos,after,guard⟩ w v' w'∧Mg w0 w' (L.set k (.row BY 1 v' (q+s.size) (xs++Lib.strCells s))):=by
  obtain⟨i,hi,hzz⟩:=Option.map_eq_some_iff.1 hinfo;simp only[Prod.mk.injEq]at hzz;obtain⟨hz,hs,hb⟩:=hzz;obtain⟨v',w',hr,hown,hgr,hat⟩:=zqi (P:=P) w w0.heap.size t u ty BY i ht hu hi hz hs hb v q xs (hM.has k hk) s hlen hM.bel.size;refine⟨v',w',fun ρ h=>?_,hM.turn k hk (by simp) hgr hown (fun d hd ha=>xab (hM.all d hd) hat ha)⟩;simp[execOp,resolve,invoke,builtin,h x _ hx,h y _ hy,hr]
end
theorem jhc{w:World}{gw:Nat}(h0:w.cell? ⟨gw,0,none⟩=some (.pointer none))(hsh:w.shape? gw=some (71,2))(hfz:w.frozen? ⟨gw,0,none⟩=false):Calls Tryz.prog 68 #[.pointer (some ⟨gw,0,none⟩)] w fun e w'=>e=.returned (.tuple #[])∧w'=w.setCell ⟨gw,0,none⟩ (.pointer (some ⟨gw,0,none⟩)):=by
  obtain⟨j,hj,hjs⟩:=Option.map_eq_some_iff.1 Tryz.Builder_X72_240.sizeBuilder
  go_enter Tryz.func68,Tryz.ntmps68
  go_wp2
  rw[Lib.run_to_unsafe w ⟨gw,0,none⟩ Tryz.underlying69 Tryz.underlying145 hj (by rw[hjs]; decide) hsh (Nat.zero_lt_succ 1)];simp only[Result.andThen];rw[Oper.upon_value]
  go_wp2
  rw[run_callFunc_extern Tryz.func101 (by kernel_rfl) (by kernel_rfl) (by kernel_rfl) (e:=Extern.AbiNoEscape.same) (by kernel_rfl)];rw[Lib.run_noEscape];simp only[Result.andThen];rw[Oper.upon_value]
  go_wp2
  rw[Lib.run_from_unsafe w ⟨gw,0,none⟩ Tryz.underlying145 Tryz.underlying69 hj hsh (by kernel_rfl)];simp only[Result.andThen];rw[Oper.upon_value]
  go_wp2
  go_end0
  exact⟨rfl,rfl⟩
theorem xac{w0 w:World}{gw:Nat}{p v:Value}{L:List Ck}(hp:p=.pointer none∨p=.pointer (some ⟨gw,0,none⟩))(hM:Mg w0 w (.obj gw (.cells #[p,v] 71)::L)):Calls Tryz.prog 68 #[.pointer (some ⟨gw,0,none⟩)] w fun e w'=>e=.returned (.tuple #[])∧Mg w0 w' (.obj gw (.cells #[.pointer (some ⟨gw,0,none⟩),v] 71)::L):=by
  have hc:=hM.cell 0 (vs:=[p,v]) rfl 0 rfl;rcases hp with rfl|rfl
  · have hb:=hM.obj 0 rfl;refine(jhc hc (by simp[World.shape?,hb]) (hM.froz 0 (vs:=[_,_]) rfl 0)).mono ?_;rintro e w' ⟨rfl,rfl⟩;exact⟨rfl,hM.put 0 (vs:=[_,v]) rfl 0 _⟩
  · refine(jeb hc).mono ?_;rintro e w' ⟨rfl,rfl⟩;exact⟨rfl,hM⟩
theorem jog{w:World}{B gw g cap:Nat}{p:Value}{l:List UInt8}{cur:Array Value}(h0:l≠[])(hbk:w.heap[gw]?=some (.cells #[p,.slice (some ⟨g,0,none⟩) l.length cap] 71 (0,0)))(hg:w.heap[g]?=some (.cells cur 5 (0,0)))(hcap:l.length≤cap)(hmax:l.length≤9223372036854775807)(hB:B≤g)
    (hcs:∀j x,l[j]?=some x→w.cell? ⟨g,j,none⟩=some (.int .u8 ((x:UInt8).toNat:Nat))) (hsz:l.length≤cur.size):Calls Tryz.prog 39 #[.pointer (some ⟨gw,0,none⟩)] w fun e w'=>e=.returned (.string ⟨l.toArray⟩)∧Below B w w':=by
  have _:l.length≠0:=by simpa using h0
  have mixed:Tryz.prog.follows .mixedOrders=true:=by kernel_rfl
  have c1:w.drew.cell? ⟨gw,1,none⟩=some (.slice (some ⟨g,0,none⟩) l.length cap):=by
    have:w.drew.heap[gw]?=some (.cells #[p,.slice (some ⟨g,0,none⟩) l.length cap] 71 (0,0)):=hbk;rw[Lib.cell_of_heap this]; rfl
  have hSD:(Builtin.unsafeSliceData_ #[27] 124 #[.slice (some ⟨g,0,none⟩) l.length cap]).run Tryz.prog w.drew=.ok (.pointer (some ⟨g,0,none⟩)) w.drew:=
    Lib.run_unsafeSliceData_row _ _ _ _ _ _ (by omega)
  have hUS:(Builtin.unsafeString_ #[124,3] 9 #[.pointer (some ⟨g,0,none⟩),.int .i64 l.length]).run Tryz.prog w.drew=.ok (.string ⟨l.toArray⟩) (w.drew.freeze ⟨g,0,none⟩ l.length):=
    Lib.run_unsafeString_row w.drew 124 3 9 5 Tryz.underlying124 (by kernel_rfl) g cur.size (by have hg':w.drew.heap[g]?=some (.cells cur 5 (0,0)):=hg; simp[World.shape?,hg']) l h0 (by omega) (by omega) (fun j x hx=>by rw[jt,Nat.zero_add]; exact hcs j x hx)
  go_enter Tryz.func39,Tryz.ntmps39
  go_wp2
  go_region_o
  all_goals (go_wp2; go_ret; exact⟨rfl,qth (Below.drew (Below.refl B w)) hB _⟩)
theorem yy{P:Program}{t:TypeId}{x y:Operand}{a b:List UInt8}(hm:a.length+b.length≤9223372036854775807):∀w,(do eqGuard .add t x y (.string ⟨a.toArray⟩) (.string ⟨b.toArray⟩); binOp .add t (.string ⟨a.toArray⟩) (.string ⟨b.toArray⟩):Sem Value).run P w=.ok (.string ⟨(a++b).toArray⟩) w:=fun w=>by
  have e:(⟨a.toArray⟩++⟨b.toArray⟩:ByteArray)=⟨(a++b).toArray⟩:=by
    apply ByteArray.ext;simp
  rw[jlb (P:=P) (a:=⟨a.toArray⟩) (b:=⟨b.toArray⟩) (by show a.toArray.size+b.toArray.size≤_; simpa using hm) w,e]
open Go.RowKit
theorem TwA_is1_27: Is1 Tryz.prog 27:=⟨⟨_,ib,rfl⟩,by kernel_rfl⟩
theorem TwA_fld_71_1: FieldAt Tryz.prog 71 1 1:=⟨_,_,Tryz.underlying71,rfl,rfl,by kernel_rfl⟩
theorem toW{w0 w:World}{a b:Ck}{X T:List Ck}(h:Mg w0 w (X++a::b::T)):Mg w0 w (a::b::(X++T)):=h.perm (List.perm_middle.trans (.cons _ List.perm_middle))
theorem zi{w0 w:World}{a b:Ck}{X T:List Ck}(h:Mg w0 w (a::b::(X++T))):Mg w0 w (X++a::b::T):=h.perm ((List.perm_middle.trans (.cons _ List.perm_middle)).symm)
theorem zgb(s:ByteArray):Lib.strCells s=Lib.byteCells s.data.toList:=rfl
theorem jec{bs:List UInt8}{s:ByteArray}:bs.length+s.size=(bs++s.data.toList).length:=by rw[fv,zm]
theorem jo{w0 w:World}{gw:Nat}{p v:Value}{pl:Bool}{bs:List UInt8}{T:List Ck}(hp:p=.pointer none∨p=(pA gw 0))(hM0:Mg w0 w (.obj gw (.cells #[p,v,bV pl] 182)::.row BY 1 v bs.length (Lib.byteCells bs)::T)){s:ByteArray}(hroom:bs.length+s.size≤140737488355328):Calls Tryz.prog 33 #[pA gw 0,.string s] w fun e w'=>e=.returned (.tuple #[iV ((s.size:Nat):Int),.nilIface])∧∃v',Mg w0 w' (.obj gw (.cells #[pA gw 0,v',bV pl] 182)::.row BY 1 v' (bs++s.data.toList).length (Lib.byteCells (bs++s.data.toList))::T):=by
 have M:Mg w0 w (.obj gw (.cells #[p,v,bV pl] 182)::.row BY 1 (v) bs.length ((Lib.byteCells bs))::T):=hM0;refine wof Tryz.func33 Tryz.ntmps33 fun Q hret hnorm hP a A=>?_;refine wsr fun _ ab=>?_;iterate 2 refine sda A λA=>?_
 refine qwr ab fun _ ac=>sdm A λA=>?_;refine sct A ec (zxh hp M) ?_;rintro _ _ ⟨rfl,hMc⟩;replace M:=hMc;refine⟨_,rfl,?_⟩;intro a A;refine qwr ac fun K4 ae=>?_;iterate 2 refine sdm A λA=>?_
 refine sdn A λA=>?_;refine sdf A 1 TwA_fld_71_1 λA=>?_;refine sdl A M TwA_is1_27 0 λA=>?_;refine sdm A λA=>?_;refine qwi (k:=1) (q:=bs.length) (m:=s.size) (xs:=Lib.byteCells bs) (news:=Lib.strCells s) A rfl rfl rfl (qti ib gi (by kernel_rfl) M 1 rfl rfl rfl hroom) (fun _=>rfl) ?_;intro _ _ M a A;obtain⟨af,ag,rfl⟩:=yd (M.has 1 rfl);refine sdn A λA=>?_;refine sdf A 1 TwA_fld_71_1 λA=>?_;refine qt A M rfl rfl (qj rfl rfl rfl (by kernel_rfl) M 0 rfl rfl rfl) 0 rfl rfl rfl ?_;intro _ M;refine qwr ae fun _ aa=>sdm A λA=>?_;refine sdo (v:=iV (((s.size:Nat):Int))) A (qgd rfl (jbj gi)) λA=>?_;iterate 2 refine sda A λA=>?_
 refine qa (aa _ _ (wp_ret (hret _ _ (en2 A rfl (qf rfl) (qf rfl) ?_))));refine⟨rfl,.slice af (bs.length+s.size) ag,?_⟩;rw[←jec,Lib.byteCells_append,←zgb];exact M
theorem qkf{w0 w:World}{gb:Nat}{p v:Value}{bs:List UInt8}{T:List Ck}(hp:p=.pointer none∨p=(pA gb 0))(hM0:Mg w0 w (.obj gb (.cells #[p,v] 71)::.row BY 1 v bs.length (Lib.byteCells bs)::T)){s:ByteArray}(hroom:bs.length+s.size≤140737488355328):Calls Tryz.prog 33 #[pA gb 0,.string s] w fun e w'=>e=.returned (.tuple #[iV ((s.size:Nat):Int),.nilIface])∧∃v',Mg w0 w' (.obj gb (.cells #[pA gb 0,v'] 71)::.row BY 1 v' (bs++s.data.toList).length (Lib.byteCells (bs++s.data.toList))::T):=by
 have M:Mg w0 w (.obj gb (.cells #[p,v] 71)::.row BY 1 (v) bs.length ((Lib.byteCells bs))::T):=hM0;refine wof Tryz.func33 Tryz.ntmps33 fun Q hret hnorm hP a A=>?_;refine wsr fun _ ab=>?_;iterate 2 refine sda A λA=>?_
 refine qwr ab fun _ ac=>sdm A λA=>?_;refine sct A ec (xac hp M) ?_;rintro _ _ ⟨rfl,hMc⟩;replace M:=hMc;refine⟨_,rfl,?_⟩;intro a A;refine qwr ac fun K4 ae=>?_;iterate 2 refine sdm A λA=>?_
 refine sdn A λA=>?_;refine sdf A 1 jnd λA=>?_;refine sdl A M quf 0 λA=>?_;refine sdm A λA=>?_;refine qwi (k:=1) (q:=bs.length) (m:=s.size) (xs:=Lib.byteCells bs) (news:=Lib.strCells s) A rfl rfl rfl (qti ib gi (by kernel_rfl) M 1 rfl rfl rfl hroom) (fun _=>rfl) ?_;intro _ _ M a A;obtain⟨af,ag,rfl⟩:=yd (M.has 1 rfl);refine sdn A λA=>?_;refine sdf A 1 jnd λA=>?_;refine qt A M rfl rfl (qj rfl rfl rfl (by kernel_rfl) M 0 rfl rfl rfl) 0 rfl rfl rfl ?_;intro _ M;refine qwr ae fun _ aa=>sdm A λA=>?_;refine sdo (v:=iV (((s.size:Nat):Int))) A (qgd rfl (jbj gi)) λA=>?_;iterate 2 refine sda A λA=>?_
 refine qa (aa _ _ (wp_ret (hret _ _ (en2 A rfl (qf rfl) (qf rfl) ?_))));refine⟨rfl,.slice af (bs.length+s.size) ag,?_⟩;rw[←jec,Lib.byteCells_append,←zgb];exact M
theorem zqj{w0 w:World}{gb:Nat}{p v:Value}{bs:List UInt8}{T:List Ck}(M:Mg w0 w (.obj gb (.cells #[p,v] 71)::.row BY 1 v bs.length (Lib.byteCells bs)::T))(h0:bs≠[])(hmax:bs.length≤9223372036854775807):Calls Tryz.prog 39 #[pA gb 0] w fun e w'=>e=.returned (.string ⟨bs.toArray⟩)∧Below w0.heap.size w w':=by
 have hown:=M.has 1 rfl;have hb:=M.obj 0 rfl;have aa:bs.length≠0:=by simpa using h0
 rcases hown.2 with⟨_,hz⟩|⟨g,cap,cur,rfl,hbg,hg,hnc,hcm,hcs,htake⟩
 ·exact absurd hz aa
 ·exact jog h0 hb hg hnc hmax hbg (fun j x hx=>by
   have h9:=hown.cells (g:=g) rfl j (.int .u8 x.toNat) (by simp[Lib.byteCells,hx]);rw[jt,Nat.zero_add]at h9;exact h9) (by simp at hcs; omega)
theorem zxi{w:World}{so:Option Addr}{ca:Nat}{ps:List Sp}(hPs:PR w so ps)(hl:ps.length≤1000000000)(hck:ckC (ps.map Sp.k)=0):Calls Tryz.prog 34 #[.slice so ps.length ca] w (RB w (.string (kat (hdT (ps.map Sp.k))).nm)):=by
 have M:=Mg.start w;refine wof Tryz.func34 Tryz.ntmps34 fun Q hret hnorm hP a A=>?_;refine wsr fun _ ak=>sda A λA=>?_;refine qwr ak fun _ am=>sda A λA=>?_;refine qwk am fun _ ai=>wsr fun K4 aj=>sdm A λA=>?_;rcases tf (decide (0≤fdI (ps.map Sp.k) 3))with aa|aa
 ·have aa':=f5 aa;refine sct A ec (zfg (hPs.below M.bel) hl (qpa hck) aa) ?_;rintro _ _ ⟨x9,rfl,⟨ix9,mx9,rx9⟩,ap⟩;replace rx9:=hPs.own _ mx9;replace M:=M.call ap;refine⟨_,rfl,?_⟩;intro a A;refine sdm A λA=>?_;iterate 2 refine sde A λA=>?_
  refine zj (vs:=ue.c) (t:=65) A M rfl rfl rfl pg (qm (z:=.agg ue.c.toArray) (by kernel_rfl) rfl) (by decide) ?_;intro g8 _ M a A;refine qt A M rfl rfl (qj rfl rfl rfl (by kernel_rfl) M 0 rfl rfl rfl) 0 rfl rfl rfl ?_;intro _ M;refine sda A λA=>?_;refine qwr aj fun _ ab=>sdm A λA=>?_;refine qct ab A ?_;refine wrl (sdf A 0 qch λA=>?_);refine sdl A M o93 0 λA=>?_;refine sda A λA=>?_;refine qwr ai fun _ ac=>sdm A λA=>?_;refine gcl A M ec (qih (qpa hck _ mx9)) fun _ _ M a A=>?_;refine sdm A λA=>?_;iterate 2 refine sde A λA=>?_
  refine zj (vs:=xx.c) (t:=120) A M rfl rfl rfl pg (qm (z:=.agg xx.c.toArray) (by kernel_rfl) rfl) (by decide) ?_;intro g15 _ M a A;refine qt A M rfl rfl (qj rfl rfl rfl (by kernel_rfl) M 0 rfl rfl rfl) 0 rfl rfl rfl ?_;intro _ M;refine sda A λA=>?_;refine qa (ac _ _ (wsr fun _ ae=>sdf A 0 jdg λA=>?_));refine sdl A M o99 0 λA=>?_;refine sda A λA=>?_;refine qr1 ae hret A ?_;exact⟨by rw[jea (f5 aa) (yg ix9)]<;>rfl,M.bel⟩
 ·have aa':=fy aa;refine gcl A M ec (zqd (hPs.below M.bel) hl (qpa hck) aa) fun _ _ M a A=>?_;refine sdm A λA=>?_;iterate 2 refine sde A λA=>?_
  refine zj (vs:=ue.c) (t:=65) A M rfl rfl rfl pg (qm (z:=.agg ue.c.toArray) (by kernel_rfl) rfl) (by decide) ?_;intro g21 _ M a A;refine qt A M rfl rfl (qj rfl rfl rfl (by kernel_rfl) M 0 rfl rfl rfl) 0 rfl rfl rfl ?_;intro _ M;refine sda A λA=>?_;refine qwr aj fun _ af=>sdm A λA=>?_;refine qcf af A ?_;refine wp_skip (ai _ _ (wsr fun _ ag=>sdm A λA=>?_));refine gcl A M ec (qih (t:=0) rfl) fun _ _ M a A=>?_;refine sdm A λA=>?_;iterate 2 refine sde A λA=>?_
  refine zj (vs:=xx.c) (t:=120) A M rfl rfl rfl pg (qm (z:=.agg xx.c.toArray) (by kernel_rfl) rfl) (by decide) ?_;intro g28 _ M a A;refine qt A M rfl rfl (qj rfl rfl rfl (by kernel_rfl) M 0 rfl rfl rfl) 0 rfl rfl rfl ?_;intro _ M;refine sda A λA=>?_;refine qa (ag _ _ (wsr fun _ ah=>sdf A 0 jdg λA=>?_));refine sdl A M o99 0 λA=>?_;refine sda A λA=>?_;refine qr1 ah hret A ?_;exact⟨by rw[joa (fy aa)]<;>rfl,M.bel⟩
theorem xha{ps:List Sp}{t:Int}{x:Sp}(h:0≤fdI (ps.map Sp.k) t)(hx:ps[(fdI (ps.map Sp.k) t).toNat]?=some x):yn x.ty t=true:=by
 unfold fdI at h hx;obtain⟨s,h1,h2⟩:=jmg h;rw[yg hx]at h1;rw[←io h1]at h2;exact h2
theorem zkj{ps:List Sp}(hck:ckC (ps.map Sp.k)=0){t:Int}(ht:t=1∨t=7∨t=8){x:Sp}(h:0≤fdI (ps.map Sp.k) t)(hx:ps[(fdI (ps.map Sp.k) t).toNat]?=some x)(hm:x∈ps):x.vs.length=1:=by
 have h1:=zka ((zjj hck).2 _ (j5 hm));have h2:un x.ty=1:=xgd h1.1 ht (xha h hx);have h3:=h1.2.1;rw[show x.k.2.length=x.vs.length from gy _,show x.k.1=x.ty from rfl,h2]at h3;omega
theorem qzh{w:World}{so:Option Addr}{ca:Nat}{ps:List Sp}(hPs:PR w so ps)(hl:ps.length≤1000000000)(hck:ckC (ps.map Sp.k)=0){t:Int}(ht1:t=1∨t=7∨t=8):Calls Tryz.prog 35 #[.slice so ps.length ca,iV t] w fun e w'=>(∃d1:Dt,0≤fdI (ps.map Sp.k) t∧flT (ps.map Sp.k) t=some d1.tr∧d1.rd w∧(∃p∈ps,d1∈p.vs)∧e=.returned (.tuple #[.agg (d1.d.cells d1.ts.length).toArray,bV true])∧Below w.heap.size w w')∨(¬0≤fdI (ps.map Sp.k) t∧e=.returned (.tuple #[.agg (zb.d.cells zb.ts.length).toArray,bV false])∧Below w.heap.size w w'):=by
 have M:=Mg.start w;refine wof Tryz.func35 Tryz.ntmps35 fun Q hret hnorm hP a A=>?_;refine wsr fun _ ai=>zj (vs:=(zb.d.cells zb.ts.length)) (t:=30) A M rfl rfl rfl pg (qm (z:=.agg (zb.d.cells zb.ts.length).toArray) (by kernel_rfl) rfl) (by decide) ?_;intro g2 _ M a A;refine sda A λA=>?_;refine qwr ai fun K4 ah=>?_;iterate 2 refine sdm A λA=>?_
 rcases tf (decide (0≤fdI (ps.map Sp.k) t))with aa|aa
 ·have aa':=f5 aa;refine sct A ec (zfg (hPs.below M.bel) hl (qpa hck) aa) ?_;rintro _ _ ⟨x9,rfl,⟨ix9,mx9,rx9⟩,aj⟩;replace rx9:=hPs.own _ mx9;replace M:=M.call aj;refine⟨_,rfl,?_⟩;intro a A;refine sdm A λA=>?_;iterate 2 refine sde A λA=>?_
  refine zj (vs:=ue.c) (t:=65) A M rfl rfl rfl pg (qm (z:=.agg ue.c.toArray) (by kernel_rfl) rfl) (by decide) ?_;intro g8 _ M a A;refine qt A M rfl rfl (qj rfl rfl rfl (by kernel_rfl) M 0 rfl rfl rfl) 0 rfl rfl rfl ?_;intro _ M;refine sda A λA=>?_;refine qwk ah fun _ ab=>wsr fun _ ac=>sdm A λA=>?_;refine sdu A λA=>?_;refine qcf ac A ?_;refine wp_skip (ab _ _ (wsk fun _ ae=>?_));have hone:=zkj hck ht1 (f5 aa) ix9 mx9;refine wrl (sdf A 1 qci λA=>?_);refine sdl A M ke 0 λA=>?_;obtain⟨tk14,btk14,otk14,itk14,mtk14,rtk14_,ltk14,Htk14⟩:=que rx9.v rx9.d (i:=0) (by omega);refine sdo (v:=pA btk14 (otk14+0*11)) A (qk (k:=0) f9 (by kernel_rfl) rfl rfl (by first|rfl|omega) ltk14 (by omega)) λA=>?_;refine sdo A (zp M Htk14 zv rfl rfl) λA=>?_;refine qt A M rfl rfl (qj rfl rfl rfl (by kernel_rfl) M 1 rfl rfl rfl) 1 rfl rfl rfl ?_;intro _ M;refine sda A λA=>?_;refine qa (ae _ _ (wp_ret (hret _ _ (en2 A rfl (zw M zv rfl 1 rfl (cs:=[iV tk14.d.k,iV tk14.d.n,bV tk14.d.y.q.b1,.slice tk14.d.y.o1 tk14.d.y.q.t1.length tk14.d.y.c1,.slice tk14.d.y.o2 tk14.d.y.q.q1.length tk14.d.y.c2,bV tk14.d.y.q.b2,.slice tk14.d.y.o3 tk14.d.y.q.t2.length tk14.d.y.c3,.slice tk14.d.y.o4 tk14.d.y.q.q2.length tk14.d.y.c4,.string tk14.d.s,.slice tk14.d.ro tk14.d.rl.length tk14.d.rc,.slice tk14.d.lo tk14.ts.length tk14.d.lc]) rfl rfl) (qf rfl) ?_))));exact .inl ⟨tk14,f5 aa,qvh (f5 aa) (yg ix9) (show(x9.vs.map Dt.tr)[0]?=some tk14.tr by rw[List.getElem?_map,itk14]; rfl),rtk14_,⟨x9,mx9,mtk14⟩,rfl,M.bel⟩
 ·have aa':=fy aa;refine gcl A M ec (zqd (hPs.below M.bel) hl (qpa hck) aa) fun _ _ M a A=>?_;refine sdm A λA=>?_;iterate 2 refine sde A λA=>?_
  refine zj (vs:=ue.c) (t:=65) A M rfl rfl rfl pg (qm (z:=.agg ue.c.toArray) (by kernel_rfl) rfl) (by decide) ?_;intro g18 _ M a A;refine qt A M rfl rfl (qj rfl rfl rfl (by kernel_rfl) M 0 rfl rfl rfl) 0 rfl rfl rfl ?_;intro _ M;refine sda A λA=>?_;refine qwk ah fun _ _=>wsr fun _ af=>sdm A λA=>?_;refine sdu A λA=>?_;refine qct af A ?_;refine wsr fun _ ag=>sdo (v:=.agg (zb.d.cells zb.ts.length).toArray) A (qn rfl (fun w=>by kernel_rfl)) λA=>?_;refine qt A M rfl rfl (qj rfl rfl rfl (by kernel_rfl) M 1 rfl rfl rfl) 1 rfl rfl rfl ?_;intro _ M;refine sda A λA=>?_;refine qa (ag _ _ (wp_ret (hret _ _ (en2 A rfl (zw M zv rfl 1 rfl (cs:=zD) rfl rfl) (qf rfl) ?_))));exact .inr ⟨fy aa,rfl,M.bel⟩
theorem qja{w:World}{so:Option Addr}{ca:Nat}{ps:List Sp}(hPs:PR w so ps)(hl:ps.length≤1000000000)(hck:ckC (ps.map Sp.k)=0){t:Int}(ht1:t=1∨t=7∨t=8)(h:decide (0≤fdI (ps.map Sp.k) t)=true):Calls Tryz.prog 35 #[.slice so ps.length ca,iV t] w fun e w'=>∃d1:Dt,e=.returned (.tuple #[.agg (d1.d.cells d1.ts.length).toArray,bV true])∧(flT (ps.map Sp.k) t=some d1.tr∧d1.rd w∧∃p∈ps,d1∈p.vs)∧Below w.heap.size w w':=by
 refine(qzh hPs hl hck ht1).mono ?_;rintro e w' (⟨d1,_,h2,h3,h4,h5,h6⟩|⟨h0,_⟩)
 ·exact⟨d1,h5,⟨h2,h3,h4⟩,h6⟩
 ·exact absurd (f5 h) h0
theorem qmj{w:World}{so:Option Addr}{ca:Nat}{ps:List Sp}(hPs:PR w so ps)(hl:ps.length≤1000000000)(hck:ckC (ps.map Sp.k)=0){t:Int}(ht1:t=1∨t=7∨t=8)(h:decide (0≤fdI (ps.map Sp.k) t)=false):Calls Tryz.prog 35 #[.slice so ps.length ca,iV t] w (RB w (.tuple #[.agg (zb.d.cells zb.ts.length).toArray,bV false])):=by
 refine(qzh hPs hl hck ht1).mono ?_;rintro e w' (⟨d1,h0,_⟩|⟨_,h1,h2⟩)
 ·exact absurd h0 (fy h)
 ·exact⟨h1,h2⟩
theorem zxj{w:World}{t:Dt}(ht:t.rd w)(hb:t.tr.bulk≤300000000)(hT:Tabs8 w):Calls Tryz.prog 72 #[.agg (t.d.cells t.ts.length).toArray] w fun e w'=>∃so' ca' ys k,e=.returned (.tuple #[.slice so' (ys:List Dt).length ca',iV k])∧((ys.map Dt.tr,k)=qfc t.tr∧Rt w' so' ys∧In (w.heap.size≤·) so' ys∧(∀x∈ys,x.rd w'∧x.at_ (w.heap.size≤·)))∧Below w.heap.size w w':=by
 have M:=Mg.start w;refine wof Tryz.func72 Tryz.ntmps72 fun Q hret hnorm hP a A=>?_;refine wsr fun _ aq=>zj (vs:=(t.d.cells t.ts.length)) (t:=30) A M rfl rfl rfl pg (qx rfl rfl) (by decide) ?_;intro g2 _ M a A;iterate 2 refine sda A λA=>?_
 refine qa (aq _ _ (wsr fun K4 ae=>sdo A (qz M zv rfl 0 rfl (cs:=(t.d.cells t.ts.length)) rfl rfl) λA=>?_));rcases tf (qs qh t.tr)with aa|aa
 ·rcases tf ((js t.tr).isSome)with ab|ab
  ·refine sct A ec (zxe M.bel ht (by omega) (hT.below M.bel) aa ab) ?_;rintro _ _ ⟨_,_,ys,rfl,⟨hy1,hy2,hy3⟩,ar⟩;have hyb:=qij hy1;replace M:=(M.both ar (qi (by simp) (za zd)) (qi (by simp) (za zd)));refine⟨_,rfl,?_⟩;intro a A;refine sdm A λA=>?_;iterate 2 refine sde A λA=>?_
   iterate 2 refine sda A λA=>?_
   refine qwk ae fun _ af=>wsr fun _ ag=>sdm A λA=>?_;refine sdo (v:=bV false) A dbK λA=>?_;refine qcf ag A ?_;refine wp_skip (af _ _ (wsr fun _ ah=>sdm A λA=>?_));refine sct A ec (zfd (fun t _=>qcj t) (kv (M.has 0 rfl)).1 (fun t ht=>Dt.keep M.bel _ (hy2 t ht)) (by omega)) ?_;rintro _ _ ⟨_,us,rfl,⟨hu1,hu2⟩,ac⟩;obtain⟨au,av,rfl⟩:=xu (ac.has 0 rfl);have hR8:=(kv (ac.has 0 rfl)).1;have hI8:=zja (ac.has 0 rfl) us;have ap:=M.bel.size;replace M:=M.call ac.bel;refine⟨_,rfl,?_⟩;intro a A;iterate 2 refine sda A λA=>?_
   refine qa (ah _ _ (wp_ret (hret _ _ (en2 A rfl (qf rfl) (qf rfl) ?_))));exact⟨au,av,us,0,rfl,⟨by rw[qhb aa hy1,hu1],hR8,hI8.mono (fun b hb=>gz ap hb),fun x hx=>⟨(hu2 x hx).1,Dt.at_mono (fun b hb=>gz ap hb.1) _ (hu2 x hx).2⟩⟩,M.bel⟩
  ·refine gcl A M ec (zxf M.bel ht (by omega) (hT.below M.bel) aa ab) fun _ _ M a A=>?_;refine sdm A λA=>?_;iterate 2 refine sde A λA=>?_
   iterate 2 refine sda A λA=>?_
   refine qwk ae fun _ _=>wsr fun _ ai=>sdm A λA=>?_;refine sdo (v:=bV true) A dbK λA=>?_;refine qct ai A ?_;refine wsr fun _ aj=>sdm A λA=>?_;iterate 2 refine sda A λA=>?_
   refine qa (aj _ _ (wp_ret (hret _ _ (en2 A rfl (qf rfl) (qf rfl) ?_))));exact⟨none,0,[],10,rfl,⟨(qmf aa (jzj ab)).symm,(fun h=>absurd rfl h),(fun h=>absurd rfl h),(fun x h=>by cases h)⟩,M.bel⟩
 ·refine gcl A M ec (jhb M.bel ht (by omega) (hT.below M.bel) aa) fun _ _ M a A=>?_;refine sdm A λA=>?_;iterate 2 refine sde A λA=>?_
  iterate 2 refine sda A λA=>?_
  refine qwk ae fun _ _=>wsr fun _ ak=>sdm A λA=>?_;refine sdo (v:=bV true) A dbK λA=>?_;refine qct ak A ?_;refine wsr fun _ am=>sdm A λA=>?_;iterate 2 refine sda A λA=>?_
  refine qa (am _ _ (wp_ret (hret _ _ (en2 A rfl (qf rfl) (qf rfl) ?_))));exact⟨none,0,[],2,rfl,⟨(qrb aa).symm,(fun h=>absurd rfl h),(fun h=>absurd rfl h),(fun x h=>by cases h)⟩,M.bel⟩
theorem qug{w:World}{so:Option Addr}{ca:Nat}{ps:List Sp}(hPs:PR w so ps)(hl:ps.length≤1000000000)(hck:ckC (ps.map Sp.k)=0)(hB:PB ps)(hT:Tabs8 w):Calls Tryz.prog 37 #[.slice so ps.length ca] w fun e w'=>∃so' ca' ys,e=.returned (.slice so' (ys:List Dt).length ca')∧(ys.map Dt.tr=irT (ps.map Sp.k)∧Rt w' so' ys∧In (w.heap.size≤·) so' ys∧(∀x∈ys,x.rd w'∧x.at_ (w.heap.size≤·)))∧Below w.heap.size w w':=by
 have M:=Mg.start w;refine wof Tryz.func37 Tryz.ntmps37 fun Q hret hnorm hP a A=>?_;refine wsr fun _ ak=>sda A λA=>?_;refine qwr ak fun _ ai=>sdm A λA=>?_;rcases tf (decide (0≤fdI (ps.map Sp.k) 7))with aa|aa
 ·have aa':=f5 aa;refine sct A ec (qja (hPs.below M.bel) hl hck (.inr (.inl rfl)) aa) ?_;rintro _ _ ⟨d1,rfl,⟨hfd1,-,hqd1⟩,am⟩;have hrd1:d1.rd w:=(by obtain⟨p9,hp9,hd9⟩:=hqd1; exact(hPs.own p9 hp9).d _ hd9);replace M:=M.call am;refine⟨_,rfl,?_⟩;intro a A;refine sdm A λA=>?_;iterate 2 refine sde A λA=>?_
  refine zj (vs:=(zb.d.cells zb.ts.length)) (t:=30) A M rfl rfl rfl pg (qm (z:=.agg (zb.d.cells zb.ts.length).toArray) (by kernel_rfl) rfl) (by decide) ?_;intro g6 _ M a A;refine qt A M rfl rfl (qj rfl rfl rfl (by kernel_rfl) M 0 rfl rfl rfl) 0 rfl rfl rfl ?_;intro _ M;refine sda A λA=>?_;refine qwk ai fun _ ap=>wsr fun _ ab=>sdm A λA=>?_;refine sdu A λA=>?_;refine qcf ab A ?_;refine wp_skip (ap _ _ (wsr fun _ ac=>sdo A (qz M zv rfl 0 rfl (cs:=(d1.d.cells d1.ts.length)) rfl rfl) λA=>?_));have aj:=M.bel.size;refine sct A ec (zxj (Dt.keep M.bel _ hrd1) (by obtain⟨p9,hp9,hd9⟩:=hqd1; have:=qdh hd9; have:=hB p9 hp9; omega) (hT.below M.bel)) ?_;rintro _ _ ⟨aq,ar,ys,k8,rfl,⟨au,hR8,hI8,hD8⟩,ae⟩;replace M:=M.call ae;refine⟨_,rfl,?_⟩;intro a A;refine sdm A λA=>?_;iterate 2 refine sde A λA=>?_
  iterate 2 refine sda A λA=>?_
  refine qwr ac fun _ af=>sdm A λA=>?_;refine sda A λA=>?_;refine qr1 af hret A ?_;exact⟨aq,ar,ys,rfl,⟨by unfold irT; rw[hfd1]; exact j9 Prod.fst au,hR8,hI8.mono (fun b hb=>gz aj hb),fun x hx=>⟨(hD8 x hx).1,Dt.at_mono (fun b hb=>gz aj hb) _ (hD8 x hx).2⟩⟩,M.bel⟩
 ·have aa':=fy aa;refine gcl A M ec (qmj (hPs.below M.bel) hl hck (.inr (.inl rfl)) aa) fun _ _ M a A=>?_;refine sdm A λA=>?_;iterate 2 refine sde A λA=>?_
  refine zj (vs:=(zb.d.cells zb.ts.length)) (t:=30) A M rfl rfl rfl pg (qm (z:=.agg (zb.d.cells zb.ts.length).toArray) (by kernel_rfl) rfl) (by decide) ?_;intro g17 _ M a A;refine qt A M rfl rfl (qj rfl rfl rfl (by kernel_rfl) M 0 rfl rfl rfl) 0 rfl rfl rfl ?_;intro _ M;refine sda A λA=>?_;refine qwk ai fun _ _=>wsr fun _ ag=>sdm A λA=>?_;refine sdu A λA=>?_;refine qct ag A ?_;refine wsr fun _ ah=>sda A λA=>?_;refine qr1 ah hret A ?_;exact⟨none,0,[],rfl,⟨by unfold irT; rw[qrc (fy aa)]; rfl,(fun h=>absurd rfl h),(fun h=>absurd rfl h),(fun x h=>by cases h)⟩,M.bel⟩
theorem zgc{w:World}{t:Dt}{s:List UInt8}(hd:∀w1,Below w.heap.size w w1→Calls Tryz.prog 71 #[.agg (t.d.cells t.ts.length).toArray] w1 fun e w2=>e=.returned (.tuple #[.string ⟨s.toArray⟩,iV 0])∧Below w1.heap.size w1 w2):Calls Tryz.prog 36 #[.agg (t.d.cells t.ts.length).toArray] w (RB w (.string ⟨s.toArray⟩)):=by
 have M:=Mg.start w;refine wof Tryz.func36 Tryz.ntmps36 fun Q hret hnorm hP a A=>?_;refine wsr fun _ aa=>zj (vs:=(t.d.cells t.ts.length)) (t:=30) A M rfl rfl rfl pg (qx rfl rfl) (by decide) ?_;intro g2 _ M a A;refine sda A λA=>?_;refine qa (aa _ _ (wsr fun K4 ab=>sdo A (qz M zv rfl 0 rfl (cs:=(t.d.cells t.ts.length)) rfl rfl) λA=>?_));refine gcl A M ec (hd _ M.bel) fun _ hbt M a A=>?_;refine sdm A λA=>?_;iterate 2 refine sde A λA=>?_
 iterate 2 refine sda A λA=>?_
 refine qwr ab fun _ ac=>sdm A λA=>?_;refine sda A λA=>?_;refine qr1 ac hret A ?_;exact⟨rfl,M.bel⟩
theorem zra{w:World}{t:Dt}{s:List UInt8}(hd:∀w1,Below w.heap.size w w1→Calls Tryz.prog 73 #[.agg (t.d.cells t.ts.length).toArray] w1 fun e w2=>e=.returned (.tuple #[.string ⟨s.toArray⟩,iV 0])∧Below w1.heap.size w1 w2):Calls Tryz.prog 38 #[.agg (t.d.cells t.ts.length).toArray] w (RB w (.string ⟨s.toArray⟩)):=by
 have M:=Mg.start w;refine wof Tryz.func38 Tryz.ntmps38 fun Q hret hnorm hP a A=>?_;refine wsr fun _ aa=>zj (vs:=(t.d.cells t.ts.length)) (t:=30) A M rfl rfl rfl pg (qx rfl rfl) (by decide) ?_;intro g2 _ M a A;refine sda A λA=>?_;refine qa (aa _ _ (wsr fun K4 ab=>sdo A (qz M zv rfl 0 rfl (cs:=(t.d.cells t.ts.length)) rfl rfl) λA=>?_));refine gcl A M ec (hd _ M.bel) fun _ hbt M a A=>?_;refine sdm A λA=>?_;iterate 2 refine sde A λA=>?_
 iterate 2 refine sda A λA=>?_
 refine qwr ab fun _ ac=>sdm A λA=>?_;refine sda A λA=>?_;refine qr1 ac hret A ?_;exact⟨rfl,M.bel⟩
theorem zla{bs l:List UInt8}(h1:bs.length≤1000000000)(h2:l.length≤2000000000):bs.length+l.length≤140737488355328:=by omega
theorem zya{g:Tr→List UInt8}:∀l:List Tr,l.length≤(l.flatMap fun t=>[32]++g t).length
 | [] => gm _
 | x :: xs => by
  have:=zya (g:=g) xs;simp only[ij,fv,fw,fx];omega
theorem jed{g:Tr→List UInt8}{l:List Tr}{j:Nat}{t:Tr}(h:l[j]?=some t):(l.drop j).flatMap (fun t=>[32]++g t)=([32]++g t)++(l.drop (j+1)).flatMap (fun t=>[32]++g t):=by
 obtain⟨hi,rfl⟩:=List.getElem?_eq_some_iff.1 h;rw[List.drop_eq_getElem_cons hi,ij]
theorem zgd{ps:List Sp}(hck:ckC (ps.map Sp.k)=0):okT 20 (hdT (ps.map Sp.k))=true:=by
 unfold hdT;cases e:(ps.map Sp.k)[(fdI (ps.map Sp.k) 3).toNat]? with
 | none => rfl
 | some k =>
  show okT 20 (if _ then k.1 else 0)=true
  split
  ·exact(zka ((zjj hck).2 _ (List.mem_of_getElem? e))).1
  ·rfl
theorem xkc{ps:List Sp}{f g:Tr→List UInt8}(hck:ckC (ps.map Sp.k)=0):tlS f g (ps.map Sp.k)≠[]:=by
 have:=xgf (zgd hck);unfold tlS;intro e;simp only[List.append_eq_nil_iff]at e;exact this e.1.1.1
theorem zlb{o:Option Tr}{f:Tr→List UInt8}{t:Tr}(h:o=some t):opT o f=f t:=by rw[h]; rfl
theorem joh{g:Tr→List UInt8}{l:List Tr}{j:Nat}{t:Tr}(h:l[j]?=some t):(g t).length≤(l.flatMap fun t=>[32]++g t).length:=by
 have hm:=List.mem_of_getElem? h;obtain⟨a,b,rfl⟩:=List.append_of_mem hm;simp only[ll,ij,fv];omega
theorem jee{w:World}{so:Option Addr}{ca:Nat}{ps:List Sp}(hPs:PR w so ps)(hl:ps.length≤1000000000)(hck:ckC (ps.map Sp.k)=0)(hB:PB ps)(hT:Tabs8 w){f g:Tr→List UInt8}(hDi:∀(d:Dt) (w1:World),d.rd w→(∃p∈ps,d∈p.vs)→(flT (ps.map Sp.k) 8=some d.tr∨flT (ps.map Sp.k) 1=some d.tr)→Below w.heap.size w w1→Calls Tryz.prog 71 #[.agg (d.d.cells d.ts.length).toArray] w1 fun e w2=>e=.returned (.tuple #[.string ⟨(f d.tr).toArray⟩,iV 0])∧Below w1.heap.size w1 w2)(hWr:∀(d:Dt) (w1:World),d.rd w1→d.tr∈irT (ps.map Sp.k)→Below w.heap.size w w1→Calls Tryz.prog 73 #[.agg (d.d.cells d.ts.length).toArray] w1 fun e w2=>e=.returned (.tuple #[.string ⟨(g d.tr).toArray⟩,iV 0])∧Below w1.heap.size w1 w2)(hlen:(tlS f g (ps.map Sp.k)).length≤1000000000):Calls Tryz.prog 7 #[.slice so ps.length ca] w (RB w (.tuple #[.string ⟨(tlS f g (ps.map Sp.k)).toArray⟩,iV 0])):=by
 have ck:(nmL (hdT (ps.map Sp.k))).length≤100:=by unfold nmL; rw[zm]; exact qpd (zgd hck)
 have hr0:([]:List UInt8).length+(kat (hdT (ps.map Sp.k))).nm.size≤140737488355328:=by have:=qpd (zgd hck); simp only[fx]; omega
 have ae:(nmL (hdT (ps.map Sp.k))++opT (flT (ps.map Sp.k) 8) fun t=>[32,105,110,32]++f t).length≤1000000000:=by
  have h9:=hlen;unfold tlS at h9;rw[fv,fv]at h9;omega
 have hfull:(tlS f g (ps.map Sp.k)).length≤1000000000:=hlen;have hparts:(tlS f g (ps.map Sp.k)).length=(nmL (hdT (ps.map Sp.k))).length+(opT (flT (ps.map Sp.k) 8) fun t=>[32,105,110,32]++f t).length+(opT (flT (ps.map Sp.k) 1) fun t=>[58,32]++f t).length+((irT (ps.map Sp.k)).flatMap fun t=>[32]++g t).length:=by unfold tlS; simp only[fv]
 have flen8:∀t,flT (ps.map Sp.k) 8=some t→4+(f t).length=(opT (flT (ps.map Sp.k) 8) fun t=>[32,105,110,32]++f t).length:=fun t h=>by rw[zlb h,fv]; rfl
 have flen1:∀t,flT (ps.map Sp.k) 1=some t→2+(f t).length=(opT (flT (ps.map Sp.k) 1) fun t=>[58,32]++f t).length:=fun t h=>by rw[zlb h,fv]; rfl
 have glen:∀{j:Nat} {t:Tr},(irT (ps.map Sp.k))[j]?=some t→(g t).length≤1000000000:=fun h=>by have:=joh (g:=g) h; omega
 have M:=Mg.start w;refine wof Tryz.func7 Tryz.ntmps7 fun Q hret hnorm hP a A=>?_;refine wsr fun _ cl=>?_;iterate 2 refine sda A λA=>?_
 refine qwk cl fun _ cm=>wsr fun _ cn=>sdm A λA=>?_;refine gcl A M ec ((hck▸zff (hPs.below M.bel) hB hl (hT.below M.bel))) fun _ hbc M a A=>?_;refine sda A λA=>?_;refine qwr cn fun _ co=>sdm A λA=>?_;refine sdo (v:=bV false) A dbK λA=>?_;refine qcf co A ?_;refine wp_skip (cm _ _ (wsr fun _ cp=>zj (vs:=[.pointer none,.slice none 0 0]) (t:=71) A M rfl rfl rfl pg (qm (z:=.agg #[.pointer none,.slice none 0 0]) (by kernel_rfl) rfl) (by decide) ?_));intro gb _ M a A;replace M:=(Mg.addNil M (qi (by simp) (za zd)));replace M:=M.perm (.swap _ _ _);refine qwr cp fun _ cq=>sdm A λA=>?_;refine gcl A M ec (zxi (hPs.below M.bel) hl hck) fun _ hbh M a A=>?_;refine sct A ec (qkf (bs:=[]) (s:=(kat (hdT (ps.map Sp.k))).nm) (.inl rfl) M (hr0)) ?_;rintro _ _ ⟨rfl,av,aw⟩;replace M:=aw;refine⟨_,rfl,?_⟩;intro a A;refine qwk cq fun cr ax=>?_;have ah:∀a w1,(∃(vb:Value),Sl a 53 [(0,.slice so ps.length ca),(2,.string (⟨#[]⟩)),(3,iV 0),(4,iV 0),(5,pA gb 0),(12,.slice so ps.length ca),(13,iV 0),(14,iV 0),(15,bV false),(17,.slice so ps.length ca),(18,.string ((kat (hdT (ps.map Sp.k))).nm))]∧Mg w w1 (.obj gb (.cells #[pA gb 0,vb] 71)::.row BY 1 (vb) (((nmL (hdT (ps.map Sp.k))++opT (flT (ps.map Sp.k) 8) fun t=>[32,105,110,32]++f t)).length) ((Lib.byteCells ((nmL (hdT (ps.map Sp.k))++opT (flT (ps.map Sp.k) 8) fun t=>[32,105,110,32]++f t))))::[]))→cr a w1:=by
  clear A M;rintro a _ ⟨vb,A,M⟩;refine ax _ _ (wsk fun cw ay=>?_);have ai:∀a w1,(∃(vb:Value),Sl a 53 [(0,.slice so ps.length ca),(2,.string (⟨#[]⟩)),(3,iV 0),(4,iV 0),(5,pA gb 0),(12,.slice so ps.length ca),(13,iV 0),(14,iV 0),(15,bV false),(17,.slice so ps.length ca),(18,.string ((kat (hdT (ps.map Sp.k))).nm))]∧Mg w w1 (.obj gb (.cells #[pA gb 0,vb] 71)::.row BY 1 (vb) ((((nmL (hdT (ps.map Sp.k))++opT (flT (ps.map Sp.k) 8) fun t=>[32,105,110,32]++f t)++opT (flT (ps.map Sp.k) 1) fun t=>[58,32]++f t)).length) ((Lib.byteCells (((nmL (hdT (ps.map Sp.k))++opT (flT (ps.map Sp.k) 8) fun t=>[32,105,110,32]++f t)++opT (flT (ps.map Sp.k) 1) fun t=>[58,32]++f t))))::[]))→cw a w1:=by
   clear A M;rintro a az ⟨vb,A,M⟩;refine ay _ _ (wsk fun _ bd=>wsr fun _ bf=>sdm A λA=>?_);refine sct A ec (qug (hPs.below M.bel) hl hck hB (hT.below M.bel)) ?_;rintro _ au ⟨cj,cx,ys,rfl,⟨bg,hR8,hI8,hD8⟩,bh⟩;have hL8:∀u1 u2,Mg u1 u2 (made az au)→Rt u2 cj ys∧∀x∈ys,x.rd u2:=fun u1 u2 h9=>⟨hR8.seen hI8 (zfc h9),fun x hx=>Dt.seen (zfc h9) _ (hD8 x hx).1 (hD8 x hx).2⟩;have hyl:ys.length=(irT (ps.map Sp.k)).length:=(by rw[←bg,gy]);have hyb:=zya (g:=g) (irT (ps.map Sp.k));replace M:Mg w au (.obj gb (.cells #[pA gb 0,vb] 71)::.row BY 1 (vb) ((((nmL (hdT (ps.map Sp.k))++opT (flT (ps.map Sp.k) 8) fun t=>[32,105,110,32]++f t)++opT (flT (ps.map Sp.k) 1) fun t=>[58,32]++f t)).length) ((Lib.byteCells (((nmL (hdT (ps.map Sp.k))++opT (flT (ps.map Sp.k) 8) fun t=>[32,105,110,32]++f t)++opT (flT (ps.map Sp.k) 1) fun t=>[58,32]++f t))))::(made az au++[])):=M.freezeAt 2 (qi (by simp) (qi (by simp) (za zd))) bh;refine⟨_,rfl,?_⟩;intro a A;refine sdo A (qr f9 rfl) λA=>?_;refine sdm A λA=>?_
   refine qa (bf _ _ (wp_block (zg (fun m_ a w1=>∃(j:Nat) (acc:List UInt8) (vb2:Value),m_=1+(ys.length-j)∧(j≤ys.length∧acc++((irT (ps.map Sp.k)).drop j).flatMap (fun t=>[32]++g t)=(tlS f g (ps.map Sp.k)))∧Sl a 53 [(0,.slice so ps.length ca),(2,.string (⟨#[]⟩)),(3,iV 0),(4,iV 0),(5,pA gb 0),(12,.slice so ps.length ca),(13,iV 0),(14,iV 0),(15,bV false),(17,.slice so ps.length ca),(18,.string ((kat (hdT (ps.map Sp.k))).nm)),(40,.slice so ps.length ca),(41,.slice cj ys.length cx),(42,iV (((ys.length:Nat):Int))),(43,iV (((j:Nat):Int)))]∧Mg w w1 (.obj gb (.cells #[pA gb 0,vb2] 71)::.row BY 1 (vb2) acc.length ((Lib.byteCells acc))::(made az au++[]))) _ ⟨0,((nmL (hdT (ps.map Sp.k))++opT (flT (ps.map Sp.k) 8) fun t=>[32,105,110,32]++f t)++opT (flT (ps.map Sp.k) 1) fun t=>[58,32]++f t),vb,rfl,⟨ii _,rfl⟩,A.keep _ (by repeat' constructor),M⟩ ?_)));clear M A;rintro m_ a _ ⟨j,acc,vb2,rfl,af,A,M⟩ _ bi;obtain⟨hj0,ag⟩:=af;have hal:acc.length≤1000000000:=(by have:=j9 List.length ag; rw[fv]at this; omega);refine wsr fun _ aj=>?_;rcases tf (decide (((j:Nat):Int)<((ys.length:Nat):Int)))with ac|ac
   ·have ac':=f5 ac;refine sdc A qy ac λA=>?_;refine qa (aj _ _ (wsk fun _ bj=>wp_cond_true (A.ev rfl) ?_));refine wp_skip (bj _ _ (wsk fun _ bn=>wp_block (wsr fun _ bp=>?_)));obtain⟨tk,btk,otk,itk,mtk,rtk_,ltk,Htk⟩:=que (hL8 _ _ ((M.dropn 2).sub (List.sublist_append_left _ _))).1 (hL8 _ _ ((M.dropn 2).sub (List.sublist_append_left _ _))).2 (i:=j) (by omega);refine sdo (v:=pA btk (otk+j*11)) A (qk (k:=j) f9 (by kernel_rfl) rfl rfl rfl ltk (by omega)) λA=>?_;refine sdo A (jgb Htk zv rfl rfl) λA=>?_;refine zj (vs:=(zb.d.cells zb.ts.length)) (t:=30) A M rfl rfl rfl pg (qm (z:=.agg (zb.d.cells zb.ts.length).toArray) (by kernel_rfl) rfl) (by decide) ?_;intro g34 _ M a A;refine qt A M rfl rfl (qj rfl rfl rfl (by kernel_rfl) M 0 rfl rfl rfl) 0 rfl rfl rfl ?_;intro _ M;refine qa (bp _ _ (wrl (sdo A (qz M zv rfl 0 rfl (cs:=(tk.d.cells tk.ts.length)) rfl rfl) λA=>?_)));have hmi:tk.tr∈irT (ps.map Sp.k):=bg▸j5 mtk;have hit:(irT (ps.map Sp.k))[j]?=some tk.tr:=(by rw[←bg,List.getElem?_map,itk]; rfl);have hgl:=glen hit;refine gcl A M ec (zra (fun w1 ae=>hWr tk w1 (Dt.keep ae _ ((hL8 _ _ ((M.dropn 3).sub (List.sublist_append_left _ _))).2 _ mtk)) hmi (M.bel.trans (ae.mono M.bel.size)))) fun _ _ M a A=>?_;obtain⟨sx39,hsx40⟩:∃s:ByteArray,(⟨([32]++(g tk.tr)).toArray⟩:ByteArray)=s:=⟨_,rfl⟩;have hlx41:sx39.data.toList=[32]++(g tk.tr):=(by rw[←hsx40]);have hzx42:sx39.size=([32]++(g tk.tr)).length:=(by rw[←zm,hlx41]);refine sdo (v:=.string sx39) A (qb rfl rfl (fun w=>(yy (a:=[32]) (b:=(g tk.tr)) (by simp only[fw,fx]; omega) w).trans (by rw[hsx40]))) λA=>?_
    replace M:=(M.bring 2 rfl rfl).bring 2 rfl rfl;refine sct A ec (qkf (bs:=acc) (s:=sx39) (.inr rfl) M (by rw[hzx42]; exact zla hal (by rw[fv]; simp only[fw,fx]; omega))) ?_;rintro _ _ ⟨rfl,cy,ak⟩;rw[hlx41]at ak;replace M:=ak;refine⟨_,rfl,?_⟩;intro a A;refine qa (bn _ _ (wrl (sdo (v:=iV (((j+1:Nat):Int))) A (qb rfl rfl (fun w=>(zq (jk (by omega) (by omega)) w).trans (by rw[show(((j:Nat):Int)+1:Int)=((j+1:Nat):Int)from by omega]))) λA=>?_)));refine sdm A λA=>?_;refine qa ?_;replace M:=M.sub (cC (cC (cN (.refl _))));refine bi _ _ _ (by omega) ⟨j+1,(acc++([32]++g tk.tr)),cy,rfl,⟨by omega,by rw[←ag,jed hit,f4]⟩,A.keep _ (by repeat' constructor),M⟩
   ·have ac':=fy ac;refine sdc A qy ac λA=>?_;refine qa (aj _ _ (wsk fun _ _=>wp_cond_false (A.ev rfl) ?_));refine wp_exit (bd _ _ (wsr fun _ bq=>?_));have e9:acc=(tlS f g (ps.map Sp.k)):=(by rw[←ag,i7 (by omega)]; simp);refine sct A ec (zqj (bs:=acc) M (by rw[e9]; exact xkc hck) (by rw[e9]; omega)) ?_;rintro _ cz ⟨rfl,br⟩;replace M:Mg w cz ([]):=⟨M.bel.trans br,by simp,.nil⟩;refine⟨_,rfl,?_⟩;intro a A;iterate 2 refine sda A λA=>?_
    refine qa (bq _ _ (wp_ret (hret _ _ (en2 A rfl (qf rfl) (qf rfl) ?_))));exact⟨by rw[e9],M.bel⟩
  refine wsr fun _ am=>sdm A λA=>?_;rcases tf (decide (0≤fdI (ps.map Sp.k) 1))with aa|aa
  ·have aa':=f5 aa;refine sct A ec (qja (hPs.below M.bel) hl hck (by decide) aa) ?_;rintro _ _ ⟨d1,rfl,⟨hfd1,-,hqd1⟩,bw⟩;have hrd1:d1.rd w:=(by obtain⟨p9,hp9,hd9⟩:=hqd1; exact(hPs.own p9 hp9).d _ hd9);replace M:=M.call bw;refine⟨_,rfl,?_⟩;intro a A;refine sdm A λA=>?_;iterate 2 refine sde A λA=>?_
   refine zj (vs:=(zb.d.cells zb.ts.length)) (t:=30) A M rfl rfl rfl pg (qm (z:=.agg (zb.d.cells zb.ts.length).toArray) (by kernel_rfl) rfl) (by decide) ?_;intro g54 _ M a A;refine qt A M rfl rfl (qj rfl rfl rfl (by kernel_rfl) M 0 rfl rfl rfl) 0 rfl rfl rfl ?_;intro _ M;refine sda A λA=>?_;refine qwr am fun _ bz=>sdm A λA=>?_;refine qct bz A ?_;refine wrl (sdo A (qz M zv rfl 0 rfl (cs:=(d1.d.cells d1.ts.length)) rfl rfl) λA=>?_);refine gcl A M ec (zgc (fun w1 ae=>hDi d1 w1 hrd1 hqd1 (.inr hfd1) (M.bel.trans (ae.mono M.bel.size)))) fun _ _ M a A=>?_;obtain⟨sx60,hsx61⟩:∃s:ByteArray,(⟨([58,32]++(f d1.tr)).toArray⟩:ByteArray)=s:=⟨_,rfl⟩;have hlx62:sx60.data.toList=[58,32]++(f d1.tr):=(by rw[←hsx61]);have hzx63:sx60.size=([58,32]++(f d1.tr)).length:=(by rw[←zm,hlx62]);refine sdo (v:=.string sx60) A (qb rfl rfl (fun w=>(yy (a:=[58,32]) (b:=(f d1.tr)) (by have:=flen1 d1.tr hfd1; simp only[fw,fx]; omega) w).trans (by rw[hsx61]))) λA=>?_;replace M:=(M.bring 2 rfl rfl).bring 2 rfl rfl;refine sct A ec (qkf (bs:=(nmL (hdT (ps.map Sp.k))++opT (flT (ps.map Sp.k) 8) fun t=>[32,105,110,32]++f t)) (s:=sx60) (.inr rfl) M (by rw[hzx63]; exact zla ae (by have:=flen1 d1.tr hfd1; rw[fv]; simp only[fw,fx]; omega))) ?_;rintro _ db ⟨rfl,cc,ap⟩;rw[hlx62]at ap
   replace M:=ap;refine⟨_,rfl,?_⟩;intro a A;refine qa ?_;replace M:=((M.bring 1 rfl rfl).bring 1 rfl rfl).sub (cC (cC (cN (.refl _))));replace M:Mg w db (.obj gb (.cells #[pA gb 0,cc] 71)::.row BY 1 (cc) ((((nmL (hdT (ps.map Sp.k))++opT (flT (ps.map Sp.k) 8) fun t=>[32,105,110,32]++f t)++opT (flT (ps.map Sp.k) 1) fun t=>[58,32]++f t)).length) ((Lib.byteCells (((nmL (hdT (ps.map Sp.k))++opT (flT (ps.map Sp.k) 8) fun t=>[32,105,110,32]++f t)++opT (flT (ps.map Sp.k) 1) fun t=>[58,32]++f t))))::[]):=(by rw[show flT (ps.map Sp.k) 1=some d1.tr from hfd1]; exact M);exact ai _ _ ⟨cc,A.keep _ (by repeat' constructor),M⟩
  ·have aa':=fy aa;refine gcl A M ec (qmj (hPs.below M.bel) hl hck (by decide) aa) fun _ _ M a A=>?_;refine sdm A λA=>?_;iterate 2 refine sde A λA=>?_
   refine zj (vs:=(zb.d.cells zb.ts.length)) (t:=30) A M rfl rfl rfl pg (qm (z:=.agg (zb.d.cells zb.ts.length).toArray) (by kernel_rfl) rfl) (by decide) ?_;intro g69 _ M a A;refine qt A M rfl rfl (qj rfl rfl rfl (by kernel_rfl) M 0 rfl rfl rfl) 0 rfl rfl rfl ?_;intro dd M;refine sda A λA=>?_;refine qwr am fun _ cd=>sdm A λA=>?_;refine qcf cd A ?_;refine wp_skip ?_;replace M:=((M.bring 2 rfl rfl).bring 2 rfl rfl).sub (cC (cC (cN (.refl _))));replace M:Mg w dd (.obj gb (.cells #[pA gb 0,vb] 71)::.row BY 1 (vb) ((((nmL (hdT (ps.map Sp.k))++opT (flT (ps.map Sp.k) 8) fun t=>[32,105,110,32]++f t)++opT (flT (ps.map Sp.k) 1) fun t=>[58,32]++f t)).length) ((Lib.byteCells (((nmL (hdT (ps.map Sp.k))++opT (flT (ps.map Sp.k) 8) fun t=>[32,105,110,32]++f t)++opT (flT (ps.map Sp.k) 1) fun t=>[58,32]++f t))))::[]):=(by rw[qrc (fy aa)]; rw[show ∀q:Tr→List UInt8,opT none q=[]from fun _=>rfl,gh]; exact M);exact ai _ _ ⟨vb,A.keep _ (by repeat' constructor),M⟩
 refine wsr fun _ aq=>sdm A λA=>?_;rcases tf (decide (0≤fdI (ps.map Sp.k) 8))with ab|ab
 ·have ab':=f5 ab;refine sct A ec (qja (hPs.below M.bel) hl hck (by decide) ab) ?_;rintro _ _ ⟨d8,rfl,⟨hfd8,-,hqd8⟩,ce⟩;have hrd8:d8.rd w:=(by obtain⟨p9,hp9,hd9⟩:=hqd8; exact(hPs.own p9 hp9).d _ hd9);replace M:=M.call ce;refine⟨_,rfl,?_⟩;intro a A;refine sdm A λA=>?_;iterate 2 refine sde A λA=>?_
  refine zj (vs:=(zb.d.cells zb.ts.length)) (t:=30) A M rfl rfl rfl pg (qm (z:=.agg (zb.d.cells zb.ts.length).toArray) (by kernel_rfl) rfl) (by decide) ?_;intro g77 _ M a A;refine qt A M rfl rfl (qj rfl rfl rfl (by kernel_rfl) M 0 rfl rfl rfl) 0 rfl rfl rfl ?_;intro _ M;refine sda A λA=>?_;refine qwr aq fun _ cg=>sdm A λA=>?_;refine qct cg A ?_;refine wrl (sdo A (qz M zv rfl 0 rfl (cs:=(d8.d.cells d8.ts.length)) rfl rfl) λA=>?_);refine gcl A M ec (zgc (fun w1 ae=>hDi d8 w1 hrd8 hqd8 (.inl hfd8) (M.bel.trans (ae.mono M.bel.size)))) fun _ _ M a A=>?_;obtain⟨sx83,hsx84⟩:∃s:ByteArray,(⟨([32,105,110,32]++(f d8.tr)).toArray⟩:ByteArray)=s:=⟨_,rfl⟩;have hlx85:sx83.data.toList=[32,105,110,32]++(f d8.tr):=by rw[←hsx84]
  have hzx86:sx83.size=([32,105,110,32]++(f d8.tr)).length:=by rw[←zm,hlx85]
  refine sdo (v:=.string sx83) A (qb rfl rfl (fun w=>(yy (a:=[32,105,110,32]) (b:=(f d8.tr)) (by have:=flen8 d8.tr hfd8; simp only[fw,fx]; omega) w).trans (by rw[hsx84]))) λA=>?_;replace M:=(M.bring 2 rfl rfl).bring 2 rfl rfl;refine sct A ec (qkf (bs:=(nmL (hdT (ps.map Sp.k)))) (s:=sx83) (.inr rfl) M (by rw[hzx86]; exact zla (gz ck (by decide)) (by have:=flen8 d8.tr hfd8; rw[fv]; simp only[fw,fx]; omega))) ?_;rintro _ de ⟨rfl,ch,ar⟩;rw[hlx85]at ar;replace M:=ar;refine⟨_,rfl,?_⟩;intro a A;refine qa ?_;replace M:=((M.bring 1 rfl rfl).bring 1 rfl rfl).sub (cC (cC (cN (.refl _))));replace M:Mg w de (.obj gb (.cells #[pA gb 0,ch] 71)::.row BY 1 (ch) (((nmL (hdT (ps.map Sp.k))++opT (flT (ps.map Sp.k) 8) fun t=>[32,105,110,32]++f t)).length) ((Lib.byteCells ((nmL (hdT (ps.map Sp.k))++opT (flT (ps.map Sp.k) 8) fun t=>[32,105,110,32]++f t))))::[]):=by rw[show flT (ps.map Sp.k) 8=some d8.tr from hfd8]; exact M
  exact ah _ _ ⟨ch,A.keep _ (by repeat' constructor),M⟩
 ·have ab':=fy ab;refine gcl A M ec (qmj (hPs.below M.bel) hl hck (by decide) ab) fun _ _ M a A=>?_;refine sdm A λA=>?_;iterate 2 refine sde A λA=>?_
  refine zj (vs:=(zb.d.cells zb.ts.length)) (t:=30) A M rfl rfl rfl pg (qm (z:=.agg (zb.d.cells zb.ts.length).toArray) (by kernel_rfl) rfl) (by decide) ?_;intro g92 _ M a A;refine qt A M rfl rfl (qj rfl rfl rfl (by kernel_rfl) M 0 rfl rfl rfl) 0 rfl rfl rfl ?_;intro df M;refine sda A λA=>?_;refine qwr aq fun _ ci=>sdm A λA=>?_;refine qcf ci A ?_;refine wp_skip ?_;replace M:=((M.bring 2 rfl rfl).bring 2 rfl rfl).sub (cC (cC (cN (.refl _))));replace M:Mg w df (.obj gb (.cells #[pA gb 0,av] 71)::.row BY 1 (av) (((nmL (hdT (ps.map Sp.k))++opT (flT (ps.map Sp.k) 8) fun t=>[32,105,110,32]++f t)).length) ((Lib.byteCells ((nmL (hdT (ps.map Sp.k))++opT (flT (ps.map Sp.k) 8) fun t=>[32,105,110,32]++f t))))::[]):=by rw[qrc (fy ab)]; rw[show ∀q:Tr→List UInt8,opT none q=[]from fun _=>rfl,gh]; exact M
  exact ah _ _ ⟨av,A.keep _ (by repeat' constructor),M⟩
theorem joi{w:World}{so:Option Addr}{ca:Nat}{ps:List Sp}(hPs:PR w so ps)(hl:ps.length≤1000000000)(hck:ckC (ps.map Sp.k)≠0)(hB:PB ps)(hT:Tabs8 w):Calls Tryz.prog 7 #[.slice so ps.length ca] w (RB w (.tuple #[.string ⟨#[]⟩,iV (ckC (ps.map Sp.k))])):=by
 have M:=Mg.start w;refine wof Tryz.func7 Tryz.ntmps7 fun Q hret hnorm hP a A=>?_;refine wsr fun _ aa=>?_;iterate 2 refine sda A λA=>?_
 refine qwk aa fun _ _=>wsr fun _ ab=>sdm A λA=>?_;refine gcl A M ec (zff (hPs.below M.bel) hB hl (hT.below M.bel)) fun _ hbc M a A=>?_;refine sda A λA=>?_;refine qwr ab fun _ ac=>sdm A λA=>?_;refine sdo (v:=bV true) A (qb rfl rfl (fun w=>(zh w).trans (by rw[show((ckC (ps.map Sp.k) != 0))=true from(iy.2 hck)]))) λA=>?_;refine qct ac A ?_;refine wsr fun _ ae=>sdm A λA=>?_;iterate 2 refine sda A λA=>?_
 refine qa (ae _ _ (wp_ret (hret _ _ (en2 A rfl (qf rfl) (qf rfl) ?_))));exact⟨rfl,M.bel⟩
def txD(k:Int)(s:ByteArray):Dt:=.mk ⟨k,0,⟨Q6.zero,none,0,none,0,none,0,none,0⟩,s,none,0,[],none,0⟩ []
def txT(k:Int)(s:ByteArray):Tr:=.mk k 0 Q6.zero s [] []
theorem joj(k:Int)(s:ByteArray):(txD k s).tr=txT k s:=by unfold txD txT; rw[Dt.tr_mk]; rfl
def jhd: Dt:=txD 6 ⟨#[99,97,114]⟩
def noD: Dt:=txD 5 ⟨#[110,111]⟩
def zrb: Tr:=txT 6 ⟨#[99,97,114]⟩
def noT: Tr:=txT 5 ⟨#[110,111]⟩
theorem jef: jhd.tr=zrb:=joj _ _
theorem jpa: noD.tr=noT:=joj _ _
theorem jpb(w:World){k:Int}{s:ByteArray}(h0:-9223372036854775808≤k)(h1:k≤9223372036854775807)(h2:s.size≤1000):(txD k s).rd w:=
  Dt.rd_iff.2 ⟨⟨⟨Sc.none w,Sc.none w,Sc.none w,Sc.none w⟩,qqi,⟨fun h=>absurd rfl h⟩,gm _,by show(0:Nat)≤_; omega,h0,h1,by show(-9223372036854775808:Int)≤0; decide,by show(0:Int)≤_; decide,by show s.size≤_; omega⟩,gm _,by show(0:Nat)≤_; omega,fun h=>absurd rfl h,fun t h=>by cases h⟩
theorem xad(w:World):jhd.rd w:=jpb w (by decide) (by decide) (by decide)
theorem xhb(w:World):noD.rd w:=jpb w (by decide) (by decide) (by decide)
theorem xec: qs qh zrb=true:=by decide +kernel
theorem xkd: qs qh noT=true:=by decide +kernel
theorem jpc: qs qh nilT=true:=by decide +kernel
theorem jpd: ofS []=nilT:=by
  unfold ofS;rw[qpc (by rw[show zy [] nilT=nilT from rfl]; exact jpc)];rfl
theorem jpe: js nilT=some []:=qie []
def K4: List (Int×List Tr):=[(6,[]),(8,[zrb]),(1,[noT]),(7,[nilT])]
theorem xhc: erS zrb noT [] true=(K4,0):=by
  rw[job xec xkd (by rw[jpd]; exact jpc) (by decide),jpd];rfl
theorem xke: ckC K4=0:=by decide +kernel
theorem jpf: flT K4 8=some zrb:=by rfl
theorem jpg: flT K4 1=some noT:=by rfl
theorem xhd: flT K4 7=some nilT:=by rfl
theorem xed: irT K4=[]:=by
  unfold irT;rw[xhd];show(qfc nilT).1=[];rw[qhb jpc jpe]
def awB: List UInt8:=[97,115,115,101,114,116,105,111,110,32,105,110,32,99,97,114,58,32,110,111]
def awF(t:Tr):List UInt8:=t.s.data.toList
def awG(_:Tr):List UInt8:=[]
theorem jeg: tlS awF awG K4=awB:=by
  unfold tlS;rw[xed,jpf,jpg];decide +kernel
theorem xae: ∀k∈K4,Tr.bulks k.2≤100000000:=by
  intro k hk;simp only[K4,ik,List.not_mem_nil,or_false]at hk;rcases hk with rfl|rfl|rfl|rfl<;>decide
theorem jph: zrb.bulk≤100000000:=by decide
theorem xaf: noT.bulk≤100000000:=by decide
def rpF(t:Int):Int:=if t=0 then -1 else if t≤3∨t=7∨t=8 then 0 else if t≤5 then 3 else if t≤13 then 5 else if t=14 then 4 else if t≤17 then 14 else 17
theorem xhe: ∀i,i<20→rpF ((i:Nat):Int)=(kds.getD i xx).par:=by decide
theorem qna{t:Int}(h:okT 20 t=true):rpF t=(kat t).par:=by
  have h1:=qba h;have:=xhe t.toNat (by omega)
  rwa [show((t.toNat:Nat):Int)=t by omega,←qra h]at this
theorem zrc{t o:Int}(h:okT 20 t=true):yn t o=((o==t)||yn (kat t).par o):=by
  unfold yn;rw[qyh h,List.any_cons]
theorem xag(o:Int):yn (-1) o=false:=by unfold yn; rw[zjh]; rfl
theorem xhf{t:Int}(h:okT 20 t=true):(kds.map Kd.nm)[t.toNat]?=some (kat t).nm:=by rw[List.getElem?_map,jmh h]; rfl
theorem xhg{w:World}(hT:Tabs8 w):Calls Tryz.prog 5 #[.agg (jhd.d.cells jhd.ts.length).toArray,.agg (noD.d.cells noD.ts.length).toArray,.slice none 0 0,bV true] w fun e w'=>∃(so':Option Addr) (ca':Nat) (cs:List Sp),e=.returned (.tuple #[.slice so' cs.length ca',iV 0])∧(cs.map Sp.k=K4∧PR w' so' cs)∧Below w.heap.size w w':=by
 refine(zga (xad w) (xhb w) (is:=[]) (so2:=none) (ca2:=0) (v:=true) (fun h=>absurd rfl h) (fun t h=>by cases h) (by rw[jef]; exact jph) (by rw[jpa]; exact xaf) (by show 0≤_; decide) hT).mono ?_;rintro e w' ⟨so',ca',cs,ev,rfl,⟨h1,h2⟩,hb⟩;rw[jef,jpa,lg,xhc]at h1;have h3:=j9 Prod.fst h1;have h4:=j9 Prod.snd h1;simp only at h3 h4;subst h4;exact⟨so',ca',cs,rfl,⟨h3,h2⟩,hb⟩
theorem xkf: decide ((⟨#[97,115,115,101,114,116,105,111,110,32,105,110,32,99,97,114,58,32,110,111]⟩:ByteArray)=⟨#[97,115,115,101,114,116,105,111,110,32,105,110,32,99,97,114,58,32,110,111]⟩)=true:=gv rfl
theorem qrf{w:World}{t:Int}:Calls Tryz.prog 42 #[iV t] w (RB w (.string (kat t).nm)):=by
 have M:=Mg.start w;refine wof Tryz.func42 Tryz.ntmps42 fun Q hret hnorm hP a A=>?_;refine wsr fun _ ag=>sda A λA=>?_;refine qa (ag _ _ (wsr fun _ ah=>jr (e:=9) (sz:=1) (m:=20) (vs:=E.strC (kds.map Kd.nm)) A M rfl rfl rfl (qg rfl (by kernel_rfl)) rfl rfl (.inl (by decide)) ?_));intro g3 _ M a A;refine sda A λA=>?_;refine qwk ah fun _ ai=>wsr fun _ ac=>sdm A λA=>?_;rcases tf (decide (t<0))with aa|aa
 ·have aa':=f5 aa;refine sdc A qy aa λA=>?_;refine sdm A λA=>?_;iterate 4 refine sks A λA=>?_
  refine sdk (v:=bV true) A λA=>?_;refine qct ac A ?_;refine wsr fun _ aj=>sda A λA=>?_;refine qr1 aj hret A ?_;have hno:okT 20 t=false:=(by first|exact zjf (by omega)|exact zjg (by omega));exact⟨by rw[qyg hno]<;>rfl,M.bel⟩
 ·have aa':=fy aa;refine sdc A qy aa λA=>?_;iterate 3 refine sdm A λA=>?_
  refine sdo A (qr lw rfl) λA=>?_;rcases tf (decide (20≤t))with ab|ab
  ·have ab':=f5 ab;refine sdc A zt ab λA=>?_;refine sdk (v:=bV true) A λA=>?_;refine qct ac A ?_;refine wsr fun _ ae=>sda A λA=>?_;refine qr1 ae hret A ?_;have hno:okT 20 t=false:=(by first|exact zjf (by omega)|exact zjg (by omega));exact⟨by rw[qyg hno]<;>rfl,M.bel⟩
  ·have ab':=fy ab;refine sdc A zt ab λA=>?_;refine sdk (v:=bV false) A λA=>?_;refine qcf ac A ?_;refine wp_skip (ai _ _ (wsr fun _ af=>?_));iterate 2 refine sdm A λA=>?_
   have hok:okT 20 t=true:=qah (by omega) (by omega);obtain⟨bx,ox,sx,hs,hc,hi⟩:=E.Rs.at_ (vm (M.has 0 rfl)) (i:=t.toNat) (by show t.toNat<20; omega);obtain rfl:sx=(kat t).nm:=io (hi.symm.trans (xhf hok));refine sdo (v:=pA bx (ox+t.toNat)) A (ja (k:=t.toNat) lw (by kernel_rfl) rfl rfl (by omega) hs (by omega)) λA=>?_;refine sdo A (qvf hc o99 rfl) λA=>?_;refine sda A λA=>?_;refine qr1 af hret A ?_;exact⟨rfl,M.bel⟩
theorem xah{w:World}{t:Int}(h:okT 20 t=false):Calls Tryz.prog 42 #[iV t] w (RB w (.string ⟨#[]⟩)):=by
 have:=qrf (w:=w) (t:=t)
 rwa [qyg h]at this
theorem km{w:World}{t:Int}:Calls Tryz.prog 107 #[iV t] w (RB w (iV (rpF t))):=by
 have M:=Mg.start w;refine wof Tryz.func107 Tryz.ntmps107 fun Q hret hnorm hP a A=>?_;refine wsr fun _ bf=>sda A λA=>?_;refine qwk bf fun _ bg=>wp_block (wsr fun _ bd=>sdm A λA=>?_);rcases tf ((t==0))with ag|ag
 ·have ag':=gr ag;refine sdc A qe ag λA=>?_;refine sda A λA=>?_;refine qct bd A ?_;refine wsr fun _ bh=>sda A λA=>?_;refine qr1 bh hret A ?_;exact⟨by rw[show rpF t=-1 from by unfold rpF; repeat (first|rfl|rw[gj (by omega)]|rw[f7 (by omega)])],M.bel⟩
 ·have ag':=f6 ag;refine sdc A qe ag λA=>?_;refine sda A λA=>?_;refine qcf bd A ?_;refine wsr fun _ aq=>sdm A λA=>?_;rcases tf (decide (t≤3))with ah|ah
  ·have ah':=f5 ah;refine sdc A xi ah λA=>?_;refine sdm A λA=>?_;iterate 2 refine sks A λA=>?_
   refine sdk (v:=bV true) A λA=>?_;refine sdm A λA=>?_;iterate 2 refine sks A λA=>?_
   refine sdk (v:=bV true) A λA=>?_;refine sda A λA=>?_;refine qct aq A ?_;refine wsr fun _ bi=>sda A λA=>?_;refine qr1 bi hret A ?_;exact⟨by rw[show rpF t=0 from by unfold rpF; repeat (first|rfl|rw[gj (by omega)]|rw[f7 (by omega)])],M.bel⟩
  ·have ah':=fy ah;refine sdc A xi ah λA=>?_;iterate 2 refine sdm A λA=>?_
   rcases tf ((t==7))with ai|ai
   ·have ai':=gr ai;refine sdc A qe ai λA=>?_;refine sdk (v:=bV true) A λA=>?_;refine sdm A λA=>?_;iterate 2 refine sks A λA=>?_
    refine sdk (v:=bV true) A λA=>?_;refine sda A λA=>?_;refine qct aq A ?_;refine wsr fun _ ar=>sda A λA=>?_;refine qr1 ar hret A ?_;exact⟨by rw[show rpF t=0 from by unfold rpF; repeat (first|rfl|rw[gj (by omega)]|rw[f7 (by omega)])],M.bel⟩
   ·have ai':=f6 ai;refine sdc A qe ai λA=>?_;refine sdk (v:=bV false) A λA=>?_;iterate 2 refine sdm A λA=>?_
    rcases tf ((t==8))with aa|aa
    ·have aa':=gr aa;refine sdc A qe aa λA=>?_;refine sdk (v:=bV true) A λA=>?_;refine sda A λA=>?_;refine qct aq A ?_;refine wsr fun _ au=>sda A λA=>?_;refine qr1 au hret A ?_;exact⟨by rw[show rpF t=0 from by unfold rpF; repeat (first|rfl|rw[gj (by omega)]|rw[f7 (by omega)])],M.bel⟩
    ·have aa':=f6 aa;refine sdc A qe aa λA=>?_;refine sdk (v:=bV false) A λA=>?_;refine sda A λA=>?_;refine qcf aq A ?_;refine wsr fun _ aj=>sdm A λA=>?_;rcases tf (decide (t≤5))with ab|ab
     ·have ab':=f5 ab;refine sdc A xi ab λA=>?_;refine sda A λA=>?_;refine qct aj A ?_;refine wsr fun _ av=>sda A λA=>?_;refine qr1 av hret A ?_;exact⟨by rw[show rpF t=3 from by unfold rpF; repeat (first|rfl|rw[gj (by omega)]|rw[f7 (by omega)])],M.bel⟩
     ·have ab':=fy ab;refine sdc A xi ab λA=>?_;refine sda A λA=>?_;refine qcf aj A ?_;refine wsr fun _ ak=>sdm A λA=>?_;rcases tf (decide (t≤13))with ac|ac
      ·have ac':=f5 ac;refine sdc A xi ac λA=>?_;refine sda A λA=>?_;refine qct ak A ?_;refine wsr fun _ aw=>sda A λA=>?_;refine qr1 aw hret A ?_;exact⟨by rw[show rpF t=5 from by unfold rpF; repeat (first|rfl|rw[gj (by omega)]|rw[f7 (by omega)])],M.bel⟩
      ·have ac':=fy ac;refine sdc A xi ac λA=>?_;refine sda A λA=>?_;refine qcf ak A ?_;refine wsr fun _ am=>sdm A λA=>?_;rcases tf ((t==14))with ae|ae
       ·have ae':=gr ae;refine sdc A qe ae λA=>?_;refine sda A λA=>?_;refine qct am A ?_;refine wsr fun _ ax=>sda A λA=>?_;refine qr1 ax hret A ?_;exact⟨by rw[show rpF t=4 from by unfold rpF; repeat (first|rfl|rw[gj (by omega)]|rw[f7 (by omega)])],M.bel⟩
       ·have ae':=f6 ae;refine sdc A qe ae λA=>?_;refine sda A λA=>?_;refine qcf am A ?_;refine wsr fun _ ap=>sdm A λA=>?_;rcases tf (decide (t≤17))with af|af
        ·have af':=f5 af;refine sdc A xi af λA=>?_;refine sda A λA=>?_;refine qct ap A ?_;refine wsr fun _ ay=>sda A λA=>?_;refine qr1 ay hret A ?_;exact⟨by rw[show rpF t=14 from by unfold rpF; repeat (first|rfl|rw[gj (by omega)]|rw[f7 (by omega)])],M.bel⟩
        ·have af':=fy af;refine sdc A xi af λA=>?_;refine sda A λA=>?_;refine qcf ap A ?_;refine wp_skip (bg _ _ (wsr fun _ az=>sda A λA=>?_));refine qr1 az hret A ?_;exact⟨by rw[show rpF t=17 from by unfold rpF; repeat (first|rfl|rw[gj (by omega)]|rw[f7 (by omega)])],M.bel⟩
theorem qzi{w:World}{t o:Int}(ht:okT 20 t=true):Calls Tryz.prog 75 #[iV t,iV o] w (RB w (bV (yn t o))):=by
 have ht9:=qba ht;have M:=Mg.start w;refine wof Tryz.func75 Tryz.ntmps75 fun Q hret hnorm hP a A=>?_;refine wsr fun _ ak=>sda A λA=>?_;refine qa (ak _ _ (wsk fun _ am=>wp_block (zg (fun m_ a w1=>∃(x:Int),m_=(x+1).toNat∧(-1≤x∧x≤t∧yn x o=yn t o)∧Sl a 12 [(0,iV x),(1,iV o)]∧Mg w w1 ([])) _ ⟨t,rfl,⟨by omega,by omega,rfl⟩,A.keep _ ⟨rfl,rfl,trivial⟩,M⟩ ?_)));clear M A;rintro m_ a _ ⟨x,rfl,ae,A,M⟩ K4 ap;obtain⟨_,ai,ab⟩:=ae;refine wsk fun _ aq=>wsr fun _ aj=>sdm A λA=>?_;rcases tf (decide (0≤x))with ac|ac
 ·have ac':=f5 ac;refine sdc A zt ac λA=>?_;refine qct aj A ?_;refine wp_skip (aq _ _ (wp_block (wsk fun _ ar=>wsr fun _ af=>?_)));iterate 2 refine sdm A λA=>?_
  rcases tf ((x==o))with aa|aa
  ·have aa':=gr aa;refine sdc A qe aa λA=>?_;refine qct af A ?_;refine wsr fun _ ag=>sda A λA=>?_;refine qr1 ag hret A ?_;have hx:okT 20 x=true:=qah (by omega) (by omega);exact⟨by rw[←ab,zrc hx,show(o==x)=true from beq_iff_eq.2 aa'.symm]<;>rfl,M.bel⟩
  ·have aa':=f6 aa;refine sdc A qe aa λA=>?_;refine qcf af A ?_;refine wp_skip (ar _ _ (wrl (sdm A λA=>?_)));have hx:okT 20 x=true:=qah (by omega) (by omega);have hpr:=qdi hx;refine gcl A M ec ((qna hx▸km)) fun au hbp M a A=>?_;refine sda A λA=>?_;refine qa ?_;replace M:Mg w au ([]):=by
    have h9:=M.sub (.refl _);exact h9
   refine ap _ _ _ (by omega) ⟨(kat x).par,rfl,⟨by omega,by omega,by rw[←ab,zrc hx,show(o==x)=false from beq_eq_false_iff_ne.2 (fun e=>aa' e.symm),Bool.false_or]⟩,A.keep _ ⟨rfl,rfl,trivial⟩,M⟩
 ·have ac':=fy ac;refine sdc A zt ac λA=>?_;refine qcf aj A ?_;refine wp_exit (am _ _ (wsr fun _ ah=>sda A λA=>?_));refine qr1 ah hret A ?_;have ai:x=-1:=by omega
  subst ai;exact⟨by rw[←ab,xag],M.bel⟩
end Go.Proofs.YtmnlfahgklnpeaaGreatDoor.G
namespace Go.Proofs.YtmnlfahgklnpeaaGreatDoor
open Go.RowKit
theorem EqO_fld_26_0: FieldAt Tryz.prog 26 0 0:=⟨_,_,j7,rfl,rfl,by kernel_rfl⟩
theorem EqO_fld_26_1: FieldAt Tryz.prog 26 1 3:=⟨_,_,j7,rfl,rfl,by kernel_rfl⟩
theorem EqO_isS_24: IsS Tryz.prog 24 3:=⟨⟨_,iv⟩,by kernel_rfl⟩
theorem zyc{w:World}{p q:Q6}{a1 a2 a3 a4:Option Addr}{ac1 ac2 ac3 ac4:Nat}(ha:Nm w p a1 ac1 a2 ac2 a3 ac3 a4 ac4)(hl:LenQ p){u1 u2 u3 u4:Option Addr}{uc1 uc2 uc3 uc4:Nat}(hu:Nm w q u1 uc1 u2 uc2 u3 uc3 u4 uc4)(hm:LenQ q){r:Bool}(hr:(xn p.b1 p.t1 p.q1 q.b1 q.t1 q.q1&&xn p.b2 p.t2 p.q2 q.b2 q.t2 q.q2)=r):Calls Tryz.prog 51 #[zic p a1 ac1 a2 ac2 a3 ac3 a4 ac4,zic q u1 uc1 u2 uc2 u3 uc3 u4 uc4] w fun e w'=>e=.returned (bV r)∧Below w.heap.size w w':=by
 have S:St w w [] [(u4,q.q2),(u3,q.t2),(u2,q.q1),(u1,q.t1),(a4,p.q2),(a3,p.t2),(a2,p.q1),(a1,p.t1)] []:=((((((((St.start w).addR ha.s1.rd).addR ha.s2.rd).addR ha.s3.rd).addR ha.s4.rd).addR hu.s1.rd).addR hu.s2.rd).addR hu.s3.rd).addR hu.s4.rd;refine wof Tryz.func51 Tryz.ntmps51 fun Q hret hnorm hP a A=>?_;refine wsr fun _ ae=>jy A S rfl rfl rfl pg (qx rfl rfl) rfl ?_;intro g2 _ S a A;refine jy A S rfl rfl rfl pg (qx rfl rfl) rfl ?_;intro g4 _ S a A;refine sda A λA=>?_;refine qa (ae _ _ (wsr fun _ ac=>sdf A 0 EqO_fld_26_0 λA=>?_));refine sdo A (zl S EqO_isS_24 rfl 1 rfl (cs:=[bV p.b1,.slice a1 p.t1.length ac1,.slice a2 p.q1.length ac2]) rfl rfl) λA=>?_;refine sdf A 0 EqO_fld_26_0 λA=>?_;refine sdo A (zl S EqO_isS_24 rfl 0 rfl (cs:=[bV q.b1,.slice u1 q.t1.length uc1,.slice u2 q.q1.length uc2]) rfl rfl) λA=>?_;rcases tf (xn p.b1 p.t1 p.q1 q.b1 q.t1 q.q1)with ab|ab
 ·refine vcl A S ec (xf ⟨(S.rd 7 rfl),ha.s1.nil,ha.s1.cap⟩ ⟨(S.rd 6 rfl),ha.s2.nil,ha.s2.cap⟩ ⟨(S.rd 3 rfl),hu.s1.nil,hu.s1.cap⟩ ⟨(S.rd 2 rfl),hu.s2.nil,hu.s2.cap⟩ hl.l1 hl.l2 hm.l1 hm.l2 ab) fun _ _ S a A=>?_;refine sdm A λA=>?_;refine sdf A 3 EqO_fld_26_1 λA=>?_;refine sdo A (zl S EqO_isS_24 rfl 1 rfl (cs:=[bV p.b2,.slice a3 p.t2.length ac3,.slice a4 p.q2.length ac4]) rfl rfl) λA=>?_;refine sdf A 3 EqO_fld_26_1 λA=>?_;refine sdo A (zl S EqO_isS_24 rfl 0 rfl (cs:=[bV q.b2,.slice u3 q.t2.length uc3,.slice u4 q.q2.length uc4]) rfl rfl) λA=>?_;rcases tf (xn p.b2 p.t2 p.q2 q.b2 q.t2 q.q2)with aa|aa
  ·refine vcl A S ec (xf ⟨(S.rd 5 rfl),ha.s3.nil,ha.s3.cap⟩ ⟨(S.rd 4 rfl),ha.s4.nil,ha.s4.cap⟩ ⟨(S.rd 1 rfl),hu.s3.nil,hu.s3.cap⟩ ⟨(S.rd 0 rfl),hu.s4.nil,hu.s4.cap⟩ hl.l3 hl.l4 hm.l3 hm.l4 aa) fun _ _ S a A=>?_;refine sdk (v:=bV true) A λA=>?_;refine sda A λA=>?_;refine qr1 ac hret A ?_;subst hr;exact⟨by rw[ab,aa]; try rfl,S.bel⟩
  ·refine vcl A S ec (xf ⟨(S.rd 5 rfl),ha.s3.nil,ha.s3.cap⟩ ⟨(S.rd 4 rfl),ha.s4.nil,ha.s4.cap⟩ ⟨(S.rd 1 rfl),hu.s3.nil,hu.s3.cap⟩ ⟨(S.rd 0 rfl),hu.s4.nil,hu.s4.cap⟩ hl.l3 hl.l4 hm.l3 hm.l4 aa) fun _ _ S a A=>?_;refine sdk (v:=bV false) A λA=>?_;refine sda A λA=>?_;refine qr1 ac hret A ?_;subst hr;exact⟨by rw[ab,aa]; try rfl,S.bel⟩
 ·refine vcl A S ec (xf ⟨(S.rd 7 rfl),ha.s1.nil,ha.s1.cap⟩ ⟨(S.rd 6 rfl),ha.s2.nil,ha.s2.cap⟩ ⟨(S.rd 3 rfl),hu.s1.nil,hu.s1.cap⟩ ⟨(S.rd 2 rfl),hu.s2.nil,hu.s2.cap⟩ hl.l1 hl.l2 hm.l1 hm.l2 ab) fun _ _ S a A=>?_;refine sdm A λA=>?_;iterate 5 refine sks A λA=>?_
  refine sdk (v:=bV false) A λA=>?_;refine sda A λA=>?_;refine qr1 ac hret A ?_;subst hr;exact⟨by rw[ab]; try rfl,S.bel⟩

end Go.Proofs.YtmnlfahgklnpeaaGreatDoor
namespace Go.Proofs.YtmnlfahgklnpeaaGreatDoor.G
open Go.RowKit
mutual
def qfe: Tr→Tr→Bool
  | .mk k n q s rl ts, u => (decide (k = u.k) && (decide (n = u.n) && (decide (s = u.s) && (decide (rl = u.rl) && (xn q.b1 q.t1 q.q1 u.q.b1 u.q.t1 u.q.q1 && xn q.b2 q.t2 q.q2 u.q.b2 u.q.t2 u.q.q2))))) && (decide (ts.length = u.ts.length) && qbb ts u.ts)
def qbb: List Tr→List Tr→Bool
  | [], _ => true
  | _ :: _, [] => true
  | t :: ts, u :: us => qfe t u && qbb ts us
end
theorem jhf{b b':Bool}{t q t' q':List Nat}:xn b t q b' t' q'=true↔b=b'∧t=t'∧q=q':=by
  unfold xn;simp
theorem zrd(k n:Int)(q:Q6)(s:ByteArray)(rl:List UInt8)(ts:List Tr)(k' n':Int)(q':Q6)(s':ByteArray)(rl':List UInt8)(ts':List Tr):qfe (.mk k n q s rl ts) (.mk k' n' q' s' rl' ts')=true↔k=k'∧n=n'∧q=q'∧s=s'∧rl=rl'∧ts.length=ts'.length∧qbb ts ts'=true:=by
  rw[qfe];show((decide (k=k')&&(decide (n=n')&&(decide (s=s')&&(decide (rl=rl')&&(xn q.b1 q.t1 q.q1 q'.b1 q'.t1 q'.q1&&xn q.b2 q.t2 q.q2 q'.b2 q'.t2 q'.q2)))))&&(decide (ts.length=ts'.length)&&qbb ts ts'))=true↔_;simp only[ig,decide_eq_true_eq,jhf];constructor
  · rintro⟨⟨a,b,c,d,⟨e1,e2,e3⟩,f1,f2,f3⟩,g,h⟩;refine⟨a,b,?_,c,d,g,h⟩;cases q; cases q'
    simp_all
  · rintro⟨a,b,c,d,e,f,g⟩;subst c;exact⟨⟨a,b,d,e,⟨rfl,rfl,rfl⟩,rfl,rfl,rfl⟩,f,g⟩
theorem zre{ts:List Tr}(h:∀t∈ts,∀u,qfe t u=true↔t=u):∀us:List Tr,ts.length=us.length→(qbb ts us=true↔ts=us):=by
  induction ts with
  | nil =>
    intro us hl;cases us with
    | nil => simp [qbb]
    | cons u us => simp at hl
  | cons t ts ih =>
    intro us hl;cases us with
    | nil => simp at hl
    | cons u us =>
      rw[qbb,ig,h t iw u,ih (fun x hx=>h x (ix _ hx)) us (by simpa using hl)];simp
theorem jqc: ∀t u:Tr,qfe t u=true↔t=u:=by
  refine Tr.indT fun k n q s rl ts ih u=>?_;obtain⟨k',n',q',s',rl',ts'⟩:=u;rw[zrd];constructor
  · rintro⟨a,b,c,d,e,f,g⟩;rw[a,b,c,d,e,(zre ih ts' f).1 g]
  · intro h;cases h
    exact⟨rfl,rfl,rfl,rfl,rfl,rfl,(zre ih ts rfl).2 rfl⟩
theorem zrf{ts us:List Dt}{i:Nat}{t u:Dt}(hi:ts[i]?=some t)(hj:us[i]?=some u):qbb ((ts.map Dt.tr).drop i) ((us.map Dt.tr).drop i)=(qfe t.tr u.tr&&qbb ((ts.map Dt.tr).drop (i+1)) ((us.map Dt.tr).drop (i+1))):=by
  rw[yv hi,yv hj,qbb]
theorem jhg{ts us:List Dt}{i:Nat}(h:¬i<ts.length):qbb ((ts.map Dt.tr).drop i) ((us.map Dt.tr).drop i)=true:=by
  rw[qbj h,qbb]
theorem zrg(p r:Dt):qfe p.tr r.tr=((decide (p.d.k=r.d.k)&&(decide (p.d.n=r.d.n)&&(decide (p.d.s=r.d.s)&&(decide (p.d.rl=r.d.rl)&&(xn p.d.y.q.b1 p.d.y.q.t1 p.d.y.q.q1 r.d.y.q.b1 r.d.y.q.t1 r.d.y.q.q1&&xn p.d.y.q.b2 p.d.y.q.t2 p.d.y.q.q2 r.d.y.q.b2 r.d.y.q.t2 r.d.y.q.q2)))))&&(decide (p.ts.length=r.ts.length)&&qbb (p.ts.map Dt.tr) (r.ts.map Dt.tr))):=by
  rw[Dt.tr_eta p,Dt.tr_eta r,qfe,gy];show _=(_&&(decide (p.ts.length=r.ts.length)&&_));rw[show(Tr.mk r.d.k r.d.n r.d.y.q r.d.s r.d.rl (r.ts.map Dt.tr)).ts.length=r.ts.length from gy _];rfl
def SQ2(p r:Dt):Bool:=xn p.d.y.q.b1 p.d.y.q.t1 p.d.y.q.q1 r.d.y.q.b1 r.d.y.q.t1 r.d.y.q.q1&&xn p.d.y.q.b2 p.d.y.q.t2 p.d.y.q.q2 r.d.y.q.b2 r.d.y.q.t2 r.d.y.q.q2
theorem qhe{p r:Dt}(h:p.d.k≠r.d.k∨p.d.n≠r.d.n∨p.d.s≠r.d.s∨p.d.rl≠r.d.rl∨p.ts.length≠r.ts.length∨SQ2 p r=false):qfe p.tr r.tr=false:=by
  rw[zrg];unfold SQ2 at h;rcases h with h|h|h|h|h|h<;>simp[h]
theorem jqd{p r:Dt}(h1:p.d.k=r.d.k)(h2:p.d.n=r.d.n)(h3:p.d.s=r.d.s)(h4:p.d.rl=r.d.rl)(h5:p.ts.length=r.ts.length)(h6:SQ2 p r=true):qfe p.tr r.tr=qbb (p.ts.map Dt.tr) (r.ts.map Dt.tr):=by
  rw[zrg];unfold SQ2 at h6;rw[gv h1,gv h2,gv h3,gv h4,gv h5,h6];simp
theorem jhh{a b:List UInt8}(hl:a.length=b.length)(h:∀j,j<a.length→a.getD j 0=b.getD j 0):a=b:=by
  apply List.ext_getElem hl;intro j h1 h2;have:=h j h1
  rwa [show a.getD j 0=a[j]from by simp[List.getD,List.getElem?_eq_getElem h1],show b.getD j 0=b[j]from by simp[List.getD,List.getElem?_eq_getElem h2]]at this
theorem xkg{a b:List UInt8}{i:Nat}(h:(((a.getD i 0).toNat:Nat):Int)≠(((b.getD i 0).toNat:Nat):Int)):a≠b:=fun e=>h (by rw[e])
theorem xkh{a b:UInt8}(h:((a.toNat:Nat):Int)=((b.toNat:Nat):Int)):a=b:=UInt8.toNat_inj.1 (by omega)
theorem TrU_is1_21: Is1 Tryz.prog 21:=⟨⟨_,iz,rfl⟩,by kernel_rfl⟩
theorem TrU_is1_5: Is1 Tryz.prog 5:=⟨⟨_,ir,rfl⟩,by kernel_rfl⟩
open Go.Lib
theorem qtj{f p:Nat}{l:List UInt8}(hl:l≠[]):kl (f+1) p l=((p:Int),uR (decodeL l).1 (decodeL l).2)::kl f (p+(decodeL l).2) (l.drop (decodeL l).2):=by
 conv=>lhs; unfold kl
 rw[f7 hl]
theorem qhf{w:World}{so:Option Addr}{l:List UInt8}{i:Nat}(h:Rb w so l)(hi:i<l.length):∃b off,so=some ⟨b,off,none⟩∧b<w.heap.size∧∀j,j<l.length→w.cell? ⟨b,off+j,none⟩=some (.int .u8 (((l.getD j 0).toNat:Nat):Int)):=
 h.pos (fun k=>by rw[k]at hi; exact absurd hi (j4 _))
def xv(us:List (Int×Int)):List Value:=us.flatMap fun u=>if u.2=-1 then[.int .i32 0,bV true,iV u.1]else[.int .i32 u.2,bV false,iV u.1]
theorem zld{x:Int}(i:Nat)(m:Int)(hm:m=((2^i-1:Nat):Int))(hs:m≤255)(h0:0≤x)(h1:x≤255):bits .and .u8 x m=x%((2^i:Nat):Int):=by
 obtain⟨n,rfl⟩:∃n:Nat,x=(n:Int):=⟨x.toNat,by omega⟩;subst hm;have h2:n &&& (2^i-1)=n%2^i:=Nat.and_two_pow_sub_one_eq_mod n i;have e:(BitVec.ofInt IntKind.u8.bits (n:Int) &&& BitVec.ofInt IntKind.u8.bits (((2^i-1:Nat)):Int)).toNat=n%2^i:=by
  rw[←h2,BitVec.ofInt_natCast,BitVec.ofInt_natCast,BitVec.toNat_and,BitVec.toNat_ofNat,BitVec.toNat_ofNat];show n%256 &&& (2^i-1)%256=_;rw[Nat.mod_eq_of_lt (by omega),Nat.mod_eq_of_lt (by omega)]
 show IntKind.u8.wrap ((BitVec.ofInt IntKind.u8.bits (n:Int) &&& BitVec.ofInt IntKind.u8.bits (((2^i-1:Nat)):Int)).toNat:Int)=_;rw[e];have:=Nat.mod_le n (2^i);exact(in_u8 (by omega) (by omega)).trans (Int.natCast_emod n (2^i))
theorem xhh{c x:Int}(h0:0≤c)(h1:c≤33554431)(h2:0≤x)(h3:x≤63):bits .or .i32 (c*64) x=c*64+x:=by
 obtain⟨a,rfl⟩:∃a:Nat,c=(a:Int):=⟨c.toNat,by omega⟩;obtain⟨n,rfl⟩:∃n:Nat,x=(n:Int):=⟨x.toNat,by omega⟩;have:=Nat.two_pow_add_eq_or_of_lt (i:=6) (b:=n) (by omega) a;rw[show(2:Nat)^6=64 from rfl]at this;have e:=xfb (64*a) n (by omega) (by omega);rw[show(((64*a:Nat)):Int)=(a:Int)*64 from by omega]at e;rw[e,←this];omega
def qua(l:List UInt8)(i:Nat):List (Int×Int):=kl (l.length-i) i (l.drop i)
theorem zyd(l:List UInt8):qua l 0=xh l:=by unfold qua xh; rw[List.drop_zero,Nat.sub_zero]
theorem zye{l:List UInt8}{i:Nat}(h:¬i<l.length):qua l i=[]:=by unfold qua; rw[show l.length-i=0 from by omega]; rfl
theorem zab{l:List UInt8}{i r q:Nat}(h:i<l.length)(e:decodeN (l.length-i) (l.getD i 0).toNat (l.getD (i+1) 0).toNat (l.getD (i+2) 0).toNat (l.getD (i+3) 0).toNat=(r,q)):qua l i=((i:Int),uR r q)::qua l (i+q):=by
 have hne:l.drop i≠[]:=fun k=>by
  have:=j9 List.length k;rw[il,fx]at this;omega
 have hd:decodeL (l.drop i)=(r,q):=by
  rw[decodeL_N,qgf,qgf,qgf,qgf,il];exact e
 have hw:=vt _ hne;rw[hd,il]at hw;simp only at hw;unfold qua;obtain⟨m,hm⟩:∃m,l.length-i=m+1:=⟨l.length-i-1,by omega⟩;rw[hm,qtj hne,hd,List.drop_drop];simp only;rw[qic m (l.length-(i+q)) _ _ (by rw[il]; omega) (by rw[il]; omega)]
def LeadU(x n:Nat)(r:Int):Prop:=(x<128∧n=1∧r=x)∨(192≤x∧x<224∧n=2∧r=x%32)∨(224≤x∧x<240∧n=3∧r=x%16)∨(240≤x∧x<248∧n=4∧r=x%8)∨((128≤x∧x<192∨248≤x)∧n=0∧r=0)
def ContU(len i n:Nat)(b1 b2 b3:Nat)(r:Int)(k:Nat)(rk:Int)(ok:Bool):Prop:=(ok=true∧0<n∧i+n≤len∧k≤n∧((k=1∧rk=r)∨(k=2∧b1 / 64=2∧rk=r*64+((b1%64:Nat):Int))∨(k=3∧b1 / 64=2∧b2 / 64=2∧rk=(r*64+((b1%64:Nat):Int))*64+((b2%64:Nat):Int))∨(k=4∧b1 / 64=2∧b2 / 64=2∧b3 / 64=2∧rk=((r*64+((b1%64:Nat):Int))*64+((b2%64:Nat):Int))*64+((b3%64:Nat):Int)))) ∨
 (ok=false∧(¬(0<n∧i+n≤len)∨(1<n∧b1 / 64≠2)∨(2<n∧b2 / 64≠2)∨(3<n∧b3 / 64≠2)))
def qnb(n:Nat):Int:=if n=2 then 128 else if n=3 then 2048 else 65536
theorem jqe{n:Nat}(h0:2≤n)(h1:n≤4):([.int .i32 0,.int .i32 0,.int .i32 128,.int .i32 2048,.int .i32 65536]:List Value)[n*1]?=some (.int .i32 (qnb n)):=by
 have h:n=2∨n=3∨n=4:=by omega
 rcases h with rfl|rfl|rfl<;>rfl
theorem xhi{x n:Nat}{r:Int}(h:LeadU x n r):n≤4∧0≤r∧r≤127∧(1<n→r≤31):=by unfold LeadU at h; omega
theorem zyf{len i n b1 b2 b3:Nat}{r:Int}{ok:Bool}(h:ok=decide (0<n∧i+n≤len)):ContU len i n b1 b2 b3 r 1 r ok:=by
 unfold ContU;by_cases k:0<n∧i+n≤len
 ·exact .inl ⟨by rw[h,gv k],k.1,k.2,by omega,.inl ⟨rfl,rfl⟩⟩
 ·exact .inr ⟨by rw[h,gn k],.inl k⟩
theorem jhi{l:List UInt8}{i n k:Nat}{r rk:Int}(hn:n≤4)(h:ContU l.length i n (l.getD (i+1) 0).toNat (l.getD (i+2) 0).toNat (l.getD (i+3) 0).toNat r k rk true)(hk:k<n):ContU l.length i n (l.getD (i+1) 0).toNat (l.getD (i+2) 0).toNat (l.getD (i+3) 0).toNat r (k+1) (rk*64+(((l.getD (i+k) 0).toNat:Nat):Int)%64) ((((l.getD (i+k) 0).toNat:Nat):Int) / 64==2):=by
 rcases h with⟨_,h1,h2,h3,h4⟩|⟨h,_⟩
 ·unfold ContU;have e:k=1∨k=2∨k=3:=by omega
  rcases e with rfl|rfl|rfl
  ·by_cases hb:(((l.getD (i+1) 0).toNat:Nat):Int) / 64=2
   ·exact .inl ⟨beq_iff_eq.2 hb,h1,h2,by omega,by omega⟩
   ·exact .inr ⟨beq_eq_false_iff_ne.2 hb,by omega⟩
  ·by_cases hb:(((l.getD (i+2) 0).toNat:Nat):Int) / 64=2
   ·exact .inl ⟨beq_iff_eq.2 hb,h1,h2,by omega,by omega⟩
   ·exact .inr ⟨beq_eq_false_iff_ne.2 hb,by omega⟩
  ·by_cases hb:(((l.getD (i+3) 0).toNat:Nat):Int) / 64=2
   ·exact .inl ⟨beq_iff_eq.2 hb,h1,h2,by omega,by omega⟩
   ·exact .inr ⟨beq_eq_false_iff_ne.2 hb,by omega⟩
 ·cases h
theorem qbf{len i n b1 b2 b3 k:Nat}{r rk:Int}(h:ContU len i n b1 b2 b3 r k rk true):0<n∧i+n≤len∧k≤n∧1≤k∧(0≤r→r≤31→k≤3→0≤rk∧rk≤200000)∧(0≤r→r≤31→0≤rk∧rk≤40000000)∧(k=1→rk=r):=by
 rcases h with⟨_,h1,h2,h3,h4⟩|⟨h,_⟩
 ·omega
 ·cases h
def EndU(len i n:Nat)(b0 b1 b2 b3:Nat)(rk:Int)(ok:Bool):Prop:=(ok=true∧decodeN (len-i) b0 b1 b2 b3=(rk.toNat,n)∧uR rk.toNat n=rk∧0≤rk∧1≤n∧i+n≤len)∨(ok=false∧decodeN (len-i) b0 b1 b2 b3=(65533,1))
theorem zyg{len i n b0 b1 b2 b3:Nat}{r rk:Int}(hi:i<len)(h0:b0<256)(hL:LeadU b0 n r)(hC:ContU len i n b1 b2 b3 r n rk true)(h:n=1∨(qnb n≤rk∧rk≤1114111∧(rk<55296∨57343<rk))):EndU len i n b0 b1 b2 b3 rk true:=by
 rcases hC with⟨_,h1,h2,h3,h4⟩|⟨h,_⟩
 ·unfold LeadU at hL;unfold qnb at h;have hn:n=1∨n=2∨n=3∨n=4:=by omega
  refine .inl ⟨rfl,?_,?_,by rcases hn with rfl|rfl|rfl|rfl<;>omega,h1,h2⟩
  ·unfold decodeN;rcases hn with rfl|rfl|rfl|rfl
   ·rw[gj (by omega)];exact Prod.ext (by show b0=rk.toNat; omega) rfl
   ·simp only[if_true]at h;rw[f7 (by omega),gj (by omega),gj (by omega)];exact Prod.ext (by show(_:Nat)=rk.toNat; omega) rfl
   ·rw[f7 (show ¬3=2 by decide),gj rfl]at h;rw[f7 (by omega),f7 (by omega),gj (by omega),gj (by omega)];exact Prod.ext (by show(_:Nat)=rk.toNat; omega) rfl
   ·rw[f7 (show ¬4=2 by decide),f7 (show ¬4=3 by decide)]at h;rw[f7 (by omega),f7 (by omega),f7 (by omega),gj (by omega),gj (by omega)];exact Prod.ext (by show(_:Nat)=rk.toNat; omega) rfl
  ·unfold uR;rw[f7 (by rcases hn with rfl|rfl|rfl|rfl<;>omega)];rcases hn with rfl|rfl|rfl|rfl<;>omega
 ·cases h
theorem zle{len i n b0 b1 b2 b3 k:Nat}{r rk:Int}{ok:Bool}(hi:i<len)(h0:b0<256)(hL:LeadU b0 n r)(hC:ContU len i n b1 b2 b3 r k rk ok)(hk:ok=true→k=n)(h:ok=false∨(n≠1∧¬(qnb n≤rk∧rk≤1114111∧(rk<55296∨57343<rk)))):EndU len i n b0 b1 b2 b3 rk false:=by
 refine .inr ⟨rfl,?_⟩;unfold LeadU at hL;unfold decodeN;rcases hC with⟨hb,h1,h2,h3,h4⟩|⟨hb,h4⟩
 ·have hkn:=hk hb;subst hkn;rcases h with h|⟨h5,h6⟩
  ·rw[hb]at h; cases h
  ·have hn:k=2∨k=3∨k=4:=(by omega);unfold qnb at h6;rcases hn with rfl|rfl|rfl
   ·simp only[if_true]at h6;rw[f7 (by omega),gj (by omega),f7 (by omega)]
   ·rw[f7 (show ¬3=2 by decide),gj rfl]at h6;rw[f7 (by omega),f7 (by omega),gj (by omega),f7 (by omega)]
   ·rw[f7 (show ¬4=2 by decide),f7 (show ¬4=3 by decide)]at h6;rw[f7 (by omega),f7 (by omega),f7 (by omega),gj (by omega),f7 (by omega)]
 ·rw[f7 (by omega),f7 (by omega),f7 (by omega),f7 (by omega)]
theorem jhj{w:World}{so:Option Addr}{cap:Nat}{l:List UInt8}(hb:Rb w so l)(hlen:l.length≤4000000):Calls Tryz.prog 239 #[.slice so l.length cap] w fun e w'=>∃v,e=.returned v∧Mg w w' [.row 211 3 v (xh l).length (xv (xh l))]:=by
 have M:=Mg.start w;refine wof Tryz.func239 Tryz.ntmps239 fun Q hret hnorm hP a A=>?_;refine wsr fun _ dk=>sda A λA=>?_;refine qa (dk _ _ (wsr fun _ dn=>jr (e:=211) (sz:=3) (m:=0) (vs:=[]) A M rfl rfl rfl (qg rfl (by kernel_rfl)) rfl rfl (.inl (by decide)) ?_));intro g3 _ M a A;refine sda A λA=>?_;refine qwk dn fun _ dq=>wsr fun _ dr=>sda A λA=>?_;refine qa (dr _ _ (wp_block (zg (fun m_ a w1=>∃(i:Nat) (acc:List (Int×Int)) (vo:Value),m_=l.length-i∧(acc++qua l i=xh l∧i≤l.length∧acc.length≤i)∧Sl a 122 [(0,.slice so l.length cap),(2,.slice none 0 0),(3,vo),(4,iV (((i:Nat):Int))),(12,.slice (aO g3) 0 0)]∧Mg w w1 (.row 211 3 (vo) acc.length ((xv acc))::[])) _ ⟨0,[],.slice (aO g3) 0 0,rfl,⟨by rw[zyd]; rfl,ii _,gm _⟩,A.keep _ ⟨rfl,rfl,rfl,rfl,rfl,trivial⟩,M⟩ ?_)));clear M A;rintro m_ a _ ⟨i,acc,vo,rfl,bf,A,M⟩ _ dg;obtain⟨hrun,_,hacc⟩:=bf;refine wsk fun _ bw=>wsr fun _ bg=>?_;iterate 2 refine sdm A λA=>?_
 refine sdo A (qr ib rfl) λA=>?_;rcases tf (decide (((i:Nat):Int)<((l.length:Nat):Int)))with aa|aa
 ·have aa':=f5 aa;refine sdc A qy aa λA=>?_;refine qct bg A ?_;refine wp_skip (bw _ _ (wp_block (wsr fun _ bz=>?_)));iterate 2 refine sda A λA=>?_
  refine qwk bz fun _ cc=>?_;have av:i<l.length:=by omega
  refine wrl ?_;iterate 2 refine sdm A λA=>?_
  obtain⟨bx,ox,cd,ce,cg⟩:=qhf (i:=i) hb (by omega);have hu9:=(l.getD (i) 0).toNat_lt;refine sdo (v:=pA bx (ox+(i))) A (ja (k:=i) ib (by kernel_rfl) rfl rfl rfl cd (by omega)) λA=>?_;refine sdo (v:=.int .u8 ((((l.getD i 0).toNat:Nat):Int))) A (qgh M ce (cg (i) (by omega)) TrU_is1_5 rfl) λA=>?_;refine sda A λA=>?_;refine qwk cc fun dt ch=>?_;have au:∀a w1,(∃(n:Nat) (r:Int),(LeadU (l.getD i 0).toNat n r)∧Sl a 122 [(0,.slice so l.length cap),(2,.slice none 0 0),(3,vo),(4,iV (((i:Nat):Int))),(5,iV (((n:Nat):Int))),(6,.int .i32 r),(12,.slice (aO g3) 0 0),(13,iV (((i:Nat):Int))),(14,.slice so l.length cap),(15,iV (((l.length:Nat):Int))),(16,bV true),(17,.slice so l.length cap),(18,iV (((i:Nat):Int))),(19,pA bx (ox+(i))),(20,.int .u8 ((((l.getD i 0).toNat:Nat):Int)))]∧Mg w w1 (.row 211 3 (vo) acc.length ((xv acc))::[]))→dt a w1:=by
   clear A M;rintro a _ ⟨n,r,ci,A,M⟩;have hL:=ci;have hn4:=xhi hL;refine ch _ _ (wsk fun du cj=>?_);have aw:∀a w1,(∃(ok:Bool),(ok=decide (0<n∧i+n≤l.length))∧Sl a 122 [(0,.slice so l.length cap),(2,.slice none 0 0),(3,vo),(4,iV (((i:Nat):Int))),(5,iV (((n:Nat):Int))),(6,.int .i32 r),(8,bV ok),(12,.slice (aO g3) 0 0),(13,iV (((i:Nat):Int))),(14,.slice so l.length cap),(15,iV (((l.length:Nat):Int))),(16,bV true),(17,.slice so l.length cap),(18,iV (((i:Nat):Int))),(19,pA bx (ox+(i))),(20,.int .u8 ((((l.getD i 0).toNat:Nat):Int)))]∧Mg w w1 (.row 211 3 (vo) acc.length ((xv acc))::[]))→du a w1:=by
    clear A M;rintro a _ ⟨ok,ck,A,M⟩;have hok:=ck;refine cj _ _ (wsk fun dv cl=>?_);have bh:∀a w1,(∃(k:Nat) (rk:Int) (ok3:Bool),(ContU l.length i n (l.getD (i+1) 0).toNat (l.getD (i+2) 0).toNat (l.getD (i+3) 0).toNat r k rk ok3∧(ok3=true→k=n))∧Sl a 122 [(0,.slice so l.length cap),(2,.slice none 0 0),(3,vo),(4,iV (((i:Nat):Int))),(5,iV (((n:Nat):Int))),(6,.int .i32 rk),(8,bV ok3),(12,.slice (aO g3) 0 0),(13,iV (((i:Nat):Int))),(14,.slice so l.length cap),(15,iV (((l.length:Nat):Int))),(16,bV true),(17,.slice so l.length cap),(18,iV (((i:Nat):Int))),(19,pA bx (ox+(i))),(20,.int .u8 ((((l.getD i 0).toNat:Nat):Int)))]∧Mg w w1 (.row 211 3 (vo) acc.length ((xv acc))::[]))→dv a w1:=by
     clear A M;rintro a dh ⟨k,rk,ok3,cm,A,M⟩;obtain⟨hC,hkn⟩:=cm;refine cl _ _ (wsk fun dw cn=>?_);have ab:∀a w1,(∃(ok4:Bool),(EndU l.length i n (l.getD i 0).toNat (l.getD (i+1) 0).toNat (l.getD (i+2) 0).toNat (l.getD (i+3) 0).toNat rk ok4)∧Sl a 122 [(0,.slice so l.length cap),(2,.slice none 0 0),(3,vo),(4,iV (((i:Nat):Int))),(5,iV (((n:Nat):Int))),(6,.int .i32 rk),(8,bV ok4),(12,.slice (aO g3) 0 0),(13,iV (((i:Nat):Int))),(14,.slice so l.length cap),(15,iV (((l.length:Nat):Int))),(16,bV true),(17,.slice so l.length cap),(18,iV (((i:Nat):Int))),(19,pA bx (ox+(i))),(20,.int .u8 ((((l.getD i 0).toNat:Nat):Int)))]∧Mg w w1 (.row 211 3 (vo) acc.length ((xv acc))::[]))→dw a w1:=by
      clear A M;rintro a _ ⟨ok4,co,A,M⟩;have hE:=co;refine cn _ _ (wsr fun _ cp=>sdm A λA=>?_);refine qa (cp _ _ ?_);refine wp_cond_split (t:=ok4) (A.ev rfl) (fun ax=>?_) (fun ax=>?_)
      ·refine wsr fun _ cq=>?_;iterate 3 refine sdm A λA=>?_
       refine sdo (v:=.agg #[.int .i32 rk,bV false,iV (((i:Nat):Int))]) A (qn rfl (fun w=>by kernel_rfl)) λA=>?_;refine jr (e:=211) (sz:=3) (m:=1) (vs:=[.int .i32 rk,bV false,iV (((i:Nat):Int))]) A M rfl rfl rfl (qg rfl (by kernel_rfl)) rfl rfl (.inl (by decide)) ?_;intro g34 _ M a A;refine xd (e:=211) (sz:=3) (k:=1) (q:=acc.length) (m:=1) (xs:=(xv acc)) (news:=[.int .i32 rk,bV false,iV (((i:Nat):Int))]) A rfl rfl rfl (qjj (z:=.agg #[.int .i32 0,bV false,iV 0]) (sz:=3) (by_:=16) Tryz.underlying208 (by kernel_rfl) rfl rfl rfl M 1 rfl rfl 0 rfl rfl rfl rfl (by omega)) (fun _=>rfl) ?_;intro di dx M a A;refine sda A λA=>?_;refine qa (cq _ _ (wrl ?_));iterate 2 refine sdm A λA=>?_
       refine sdo (v:=iV (((i+n:Nat):Int))) A (qb rfl rfl (ar_add ((in_i64 (by omega) (by omega)).trans (by omega)))) λA=>?_;refine sda A λA=>?_;refine qa ?_;obtain⟨hd,hr9,hrk,hn1,hn2⟩:decodeN (l.length-i) (l.getD i 0).toNat (l.getD (i+1) 0).toNat (l.getD (i+2) 0).toNat (l.getD (i+3) 0).toNat=(rk.toNat,n)∧uR rk.toNat n=rk∧0≤rk∧1≤n∧i+n≤l.length:=by
        rcases hE with⟨_,h⟩|⟨h,_⟩
        ·exact h
        ·rw[ax]at h; cases h
       have hs9:=zab av hd;rw[hr9]at hs9;replace M:Mg w dx [.row 211 3 di (acc++[((i:Int),rk)]).length (xv (acc++[((i:Int),rk)]))]:=by
        have h9:=M.sub (cN (cC (.refl _)));have e9:xv (acc++[((i:Int),rk)])=xv acc++[.int .i32 rk,bV false,iV (((i:Nat):Int))]:=by
         unfold xv;rw[ll,List.flatMap_singleton];rw[f7 (show ¬_=(-1:Int)by simp only; omega)]
        rw[e9,fv];exact h9
       refine dg _ _ _ (by omega) ⟨i+n,acc++[((i:Int),rk)],di,rfl,⟨by rw[←hrun,hs9,f4]; rfl,by omega,by rw[fv]; simp only[fw,fx]; omega⟩,A.keep _ ⟨rfl,rfl,rfl,rfl,rfl,trivial⟩,M⟩
      ·refine wsr fun _ cr=>?_;iterate 2 refine sdm A λA=>?_
       refine sdo (v:=.agg #[.int .i32 0,bV true,iV (((i:Nat):Int))]) A (qn rfl (fun w=>by kernel_rfl)) λA=>?_;refine jr (e:=211) (sz:=3) (m:=1) (vs:=[.int .i32 0,bV true,iV (((i:Nat):Int))]) A M rfl rfl rfl (qg rfl (by kernel_rfl)) rfl rfl (.inl (by decide)) ?_;intro g39 _ M a A;refine xd (e:=211) (sz:=3) (k:=1) (q:=acc.length) (m:=1) (xs:=(xv acc)) (news:=[.int .i32 0,bV true,iV (((i:Nat):Int))]) A rfl rfl rfl (qjj (z:=.agg #[.int .i32 0,bV false,iV 0]) (sz:=3) (by_:=16) Tryz.underlying208 (by kernel_rfl) rfl rfl rfl M 1 rfl rfl 0 rfl rfl rfl rfl (by omega)) (fun _=>rfl) ?_;intro dj dy M a A;refine sda A λA=>?_;refine qa (cr _ _ (wrl (sdm A λA=>?_)));refine sdo (v:=iV (((i+1:Nat):Int))) A (qb rfl rfl (ar_add ((in_i64 (by omega) (by omega)).trans (by omega)))) λA=>?_;refine sda A λA=>?_;refine qa ?_;have hd:decodeN (l.length-i) (l.getD i 0).toNat (l.getD (i+1) 0).toNat (l.getD (i+2) 0).toNat (l.getD (i+3) 0).toNat=(65533,1):=by
        rcases hE with⟨h,_⟩|⟨_,h⟩
        ·rw[ax]at h; cases h
        ·exact h
       have hr9:uR 65533 1=-1:=(by unfold uR; rw[gj ⟨rfl,by decide⟩]);have hs9:=zab av hd;rw[hr9]at hs9;replace M:Mg w dy [.row 211 3 dj (acc++[((i:Int),(-1))]).length (xv (acc++[((i:Int),(-1))]))]:=by
        have h9:=M.sub (cN (cC (.refl _)));have e9:xv (acc++[((i:Int),(-1))])=xv acc++[.int .i32 0,bV true,iV (((i:Nat):Int))]:=by
         unfold xv;rw[ll,List.flatMap_singleton];rw[gj rfl]
        rw[e9,fv];exact h9
       refine dg _ _ _ (by omega) ⟨i+1,acc++[((i:Int),(-1))],dj,rfl,⟨by rw[←hrun,hs9,f4]; rfl,by omega,by rw[fv]; simp only[fw,fx]; omega⟩,A.keep _ ⟨rfl,rfl,rfl,rfl,rfl,trivial⟩,M⟩
     refine wsr fun _ ay=>?_;iterate 2 refine sdm A λA=>?_
     rcases ok3 with _|_
     ·iterate 2 refine sks A λA=>?_
      refine sdk (v:=bV false) A λA=>?_;refine qcf ay A ?_;refine wp_skip ?_;replace M:Mg w dh (.row 211 3 (vo) acc.length ((xv acc))::[]):=by
       have h9:=M.sub (cC (.refl _));exact h9
      exact ab _ _ ⟨false,zle av ((l.getD i 0).toNat_lt) hL hC hkn (.inl rfl),A.keep _ (by repeat' constructor),M⟩
     ·refine sdm A λA=>?_;rcases tf (decide (1<((n:Nat):Int)))with ac|ac
      ·have ac':=f5 ac;refine sdc A jh ac λA=>?_;refine sdk (v:=bV true) A λA=>?_;refine qct ay A ?_;refine wsr fun _ cw=>jr (e:=21) (sz:=1) (m:=5) (vs:=[.int .i32 0,.int .i32 0,.int .i32 128,.int .i32 2048,.int .i32 65536]) A M rfl rfl rfl (qg rfl (by kernel_rfl)) rfl rfl (.inl (by decide)) ?_;intro g46 bi M a A;refine sda A λA=>?_;refine qa (cw _ _ ?_);have dz:=qbf hC;refine wrl ?_;iterate 3 refine sdm A λA=>?_
       refine sdo (v:=pA g46 (n*1)) A (qaa (k:=n) j2 (by kernel_rfl) rfl rfl rfl (by omega)) λA=>?_;refine sdo (v:=.int .i32 (qnb n)) A (qog M 0 rfl (jqe (by omega) (by omega)) TrU_is1_21 rfl) λA=>?_;rcases tf (decide (qnb n≤rk))with ae|ae
       ·have ae':=f5 ae;refine sdc A zt ae λA=>?_;iterate 2 refine sdm A λA=>?_
        rcases tf (decide (rk≤1114111))with af|af
        ·have af':=f5 af;refine sdc A xi af λA=>?_;refine sdk (v:=bV true) A λA=>?_;iterate 2 refine sdm A λA=>?_
         rcases tf (decide (rk<55296))with ag|ag
         ·have ag':=f5 ag;refine sdc A qy ag λA=>?_;refine sdm A λA=>?_;iterate 2 refine sks A λA=>?_
          iterate 2 refine sdk (v:=bV true) A λA=>?_
          refine sda A λA=>?_;refine qa ?_;replace M:Mg w bi (.row 211 3 (vo) acc.length ((xv acc))::[]):=by
           have h9:=M.sub (cN (cC (.refl _)));exact h9
          have bj:=qbf hC;exact ab _ _ ⟨true,zyg av ((l.getD i 0).toNat_lt) hL (hkn rfl▸hC) (by omega),A.keep _ (by repeat' constructor),M⟩
         ·have ag':=fy ag;refine sdc A qy ag λA=>?_;iterate 2 refine sdm A λA=>?_
          rcases tf (decide (57343<rk))with ah|ah
          ·have ah':=f5 ah;refine sdc A jh ah λA=>?_;iterate 2 refine sdk (v:=bV true) A λA=>?_
           refine sda A λA=>?_;refine qa ?_;replace M:Mg w bi (.row 211 3 (vo) acc.length ((xv acc))::[]):=by
            have h9:=M.sub (cN (cC (.refl _)));exact h9
           have bj:=qbf hC;exact ab _ _ ⟨true,zyg av ((l.getD i 0).toNat_lt) hL (hkn rfl▸hC) (by omega),A.keep _ (by repeat' constructor),M⟩
          ·have ah':=fy ah;refine sdc A jh ah λA=>?_;iterate 2 refine sdk (v:=bV false) A λA=>?_
           refine sda A λA=>?_;refine qa ?_;replace M:Mg w bi (.row 211 3 (vo) acc.length ((xv acc))::[]):=by
            have h9:=M.sub (cN (cC (.refl _)));exact h9
           have bj:=qbf hC;exact ab _ _ ⟨false,zle av ((l.getD i 0).toNat_lt) hL hC hkn (.inr ⟨by omega,by omega⟩),A.keep _ (by repeat' constructor),M⟩
        ·have af':=fy af;refine sdc A xi af λA=>?_;refine sdk (v:=bV false) A λA=>?_;refine sdm A λA=>?_;iterate 3 refine sks A λA=>?_
         iterate 2 refine qbh A rfl rfl rfl λa A=>?_
         refine sks A λA=>?_;refine sdk (v:=bV false) A λA=>?_;refine sda A λA=>?_;refine qa ?_;replace M:Mg w bi (.row 211 3 (vo) acc.length ((xv acc))::[]):=by
          have h9:=M.sub (cN (cC (.refl _)));exact h9
         have bj:=qbf hC;exact ab _ _ ⟨false,zle av ((l.getD i 0).toNat_lt) hL hC hkn (.inr ⟨by omega,by omega⟩),A.keep _ (by repeat' constructor),M⟩
       ·have ae':=fy ae;refine sdc A zt ae λA=>?_;refine sdm A λA=>?_;iterate 2 refine sks A λA=>?_
        refine sdk (v:=bV false) A λA=>?_;refine sdm A λA=>?_;iterate 3 refine sks A λA=>?_
        iterate 2 refine qbh A rfl rfl rfl λa A=>?_
        refine sks A λA=>?_;refine sdk (v:=bV false) A λA=>?_;refine sda A λA=>?_;refine qa ?_;replace M:Mg w bi (.row 211 3 (vo) acc.length ((xv acc))::[]):=by
         have h9:=M.sub (cN (cC (.refl _)));exact h9
        have bj:=qbf hC;exact ab _ _ ⟨false,zle av ((l.getD i 0).toNat_lt) hL hC hkn (.inr ⟨by omega,by omega⟩),A.keep _ (by repeat' constructor),M⟩
      ·have ac':=fy ac;refine sdc A jh ac λA=>?_;refine sdk (v:=bV false) A λA=>?_;refine qcf ay A ?_;refine wp_skip ?_;replace M:Mg w dh (.row 211 3 (vo) acc.length ((xv acc))::[]):=by
        have h9:=M.sub (cC (.refl _));exact h9
       have bj:=qbf hC;exact ab _ _ ⟨true,zyg av ((l.getD i 0).toNat_lt) hL (hkn rfl▸hC) (by omega),A.keep _ (by repeat' constructor),M⟩
    refine wsr fun _ cx=>sda A λA=>?_;refine qa (cx _ _ (wp_block (zg (fun m_ a w1=>∃(k:Nat) (rk:Int) (ok2:Bool),m_=5-k∧(ContU l.length i n (l.getD (i+1) 0).toNat (l.getD (i+2) 0).toNat (l.getD (i+3) 0).toNat r k rk ok2)∧Sl a 122 [(0,.slice so l.length cap),(2,.slice none 0 0),(3,vo),(4,iV (((i:Nat):Int))),(5,iV (((n:Nat):Int))),(6,.int .i32 rk),(8,bV ok2),(9,iV (((k:Nat):Int))),(12,.slice (aO g3) 0 0),(13,iV (((i:Nat):Int))),(14,.slice so l.length cap),(15,iV (((l.length:Nat):Int))),(16,bV true),(17,.slice so l.length cap),(18,iV (((i:Nat):Int))),(19,pA bx (ox+(i))),(20,.int .u8 ((((l.getD i 0).toNat:Nat):Int)))]∧Mg w w1 (.row 211 3 (vo) acc.length ((xv acc))::[])) _ ⟨1,r,ok,rfl,zyf hok,A.keep _ (by repeat' constructor),M⟩ ?_)));clear M A;rintro m_ a _ ⟨k,rk,ok2,rfl,az,A,M⟩ _ cy;have hC:=az;refine wsk fun _ cz=>wsr fun _ bd=>?_;iterate 2 refine sdm A λA=>?_
    rcases ok2 with _|_
    ·iterate 3 refine sks A λA=>?_
     refine sdk (v:=bV false) A λA=>?_;refine qcf bd A ?_;refine wp_exit ?_;exact bh _ _ ⟨k,rk,false,⟨hC,fun h=>by cases h⟩,A.keep _ (by repeat' constructor),M⟩
    ·iterate 2 refine sdm A λA=>?_
     rcases tf (decide (((k:Nat):Int)<((n:Nat):Int)))with ai|ai
     ·have ai':=f5 ai;refine sdc A qy ai λA=>?_;refine sdk (v:=bV true) A λA=>?_;refine qct bd A ?_;refine wp_skip (cz _ _ (wsk fun _ db=>wp_block (wsk fun _ dd=>?_)));have dz:=qbf hC;refine wrl ?_;iterate 3 refine sdm A λA=>?_
      refine sdo (v:=iV (((i+k:Nat):Int))) A (qb rfl rfl (ar_add ((in_i64 (by omega) (by omega)).trans (by omega)))) λA=>?_;obtain⟨bx,ox,cd,ce,cg⟩:=qhf (i:=i+k) hb (by omega);have hu9:=(l.getD (i+k) 0).toNat_lt;refine sdo (v:=pA bx (ox+(i+k))) A (ja (k:=i+k) ib (by kernel_rfl) rfl rfl rfl cd (by omega)) λA=>?_;refine sdo (v:=.int .u8 ((((l.getD (i+k) 0).toNat:Nat):Int))) A (qgh M ce (cg (i+k) (by omega)) TrU_is1_5 rfl) λA=>?_;refine sda A λA=>?_;refine qwr dd fun _ de=>sdm A λA=>?_;refine sdo (v:=.int .u8 (((((l.getD (i+k) 0).toNat:Nat):Int)) / 64)) A (qb rfl rfl (ar_shr (n:=6) rfl rfl rfl)) λA=>?_;refine sdo (v:=bV ((((((l.getD (i+k) 0).toNat:Nat):Int)) / 64==2))) A (qb rfl rfl qe) λA=>?_;refine sda A λA=>?_;refine qa (de _ _ (wrl (sdm A λA=>?_)));refine sdo (v:=.int .i32 (rk*64)) A (qb rfl rfl (ar_shl (n:=6) rfl rfl (in_i32 (by omega) (by omega)))) λA=>?_;refine sdm A λA=>?_;refine sdo (v:=.int .u8 (((((l.getD (i+k) 0).toNat:Nat):Int))%64)) A (qb rfl rfl (ar_and (zld 6 63 rfl (by decide) (by omega) (by omega)))) λA=>?_;refine sdo (v:=.int .i32 (((((l.getD (i+k) 0).toNat:Nat):Int))%64)) A (zk rfl (ar_conv ir iz (in_i32 (by omega) (by omega)))) λA=>?_;refine sdo (v:=.int .i32 (rk*64+(((((l.getD (i+k) 0).toNat:Nat):Int))%64))) A (qb rfl rfl (ar_or (xhh (by omega) (by omega) (by omega) (by omega)))) λA=>?_;refine sda A λA=>?_;refine qa (db _ _ (wrl (sdm A λA=>?_)));refine sdo (v:=iV (((k+1:Nat):Int))) A (qb rfl rfl (ar_add ((in_i64 (by omega) (by omega)).trans (by omega)))) λA=>?_;refine sda A λA=>?_;refine qa ?_;refine cy _ _ _ (by omega) ⟨k+1,rk*64+(((((l.getD (i+k) 0).toNat:Nat):Int))%64),(((((l.getD (i+k) 0).toNat:Nat):Int)) / 64==2),rfl,jhi (by omega) hC (by omega),A.keep _ (by repeat' constructor),M⟩
     ·have ai':=fy ai;refine sdc A qy ai λA=>?_;refine sdk (v:=bV false) A λA=>?_;refine qcf bd A ?_;refine wp_exit ?_;exact bh _ _ ⟨k,rk,true,⟨hC,fun _=>by have:=qbf hC; omega⟩,A.keep _ (by repeat' constructor),M⟩
   refine wrl (sdm A λA=>?_);rcases tf (decide (0<((n:Nat):Int)))with aj|aj
   ·have aj':=f5 aj;refine sdc A jh aj λA=>?_;iterate 3 refine sdm A λA=>?_
    refine sdo (v:=iV (((i+n:Nat):Int))) A (qb rfl rfl (ar_add ((in_i64 (by omega) (by omega)).trans (by omega)))) λA=>?_;refine sdm A λA=>?_;refine sdo A (qr ib rfl) λA=>?_;rcases tf (decide (((i+n:Nat):Int)≤((l.length:Nat):Int)))with ak|ak
    ·have ak':=f5 ak;refine sdc A xi ak λA=>?_;refine sdk (v:=bV true) A λA=>?_;refine sda A λA=>?_;refine qa ?_;exact aw _ _ ⟨true,(gv (by omega)).symm,A.keep _ (by repeat' constructor),M⟩
    ·have ak':=fy ak;refine sdc A xi ak λA=>?_;refine sdk (v:=bV false) A λA=>?_;refine sda A λA=>?_;refine qa ?_;exact aw _ _ ⟨false,(gn (by omega)).symm,A.keep _ (by repeat' constructor),M⟩
   ·have aj':=fy aj;refine sdc A jh aj λA=>?_;refine sdm A λA=>?_;iterate 6 refine sks A λA=>?_
    refine sdk (v:=bV false) A λA=>?_;refine sda A λA=>?_;refine qa ?_;exact aw _ _ ⟨false,(gn (by omega)).symm,A.keep _ (by repeat' constructor),M⟩
  refine wp_block (wsr fun _ bn=>sdm A λA=>?_);rcases tf (decide ((((l.getD i 0).toNat:Nat):Int)<128))with am|am
  ·have am':=f5 am;refine sdc A qy am λA=>?_;refine sda A λA=>?_;refine qct bn A ?_;refine wrl (sdm A λA=>?_);refine sdo (v:=.int .i32 ((((l.getD i 0).toNat:Nat):Int))) A (zk rfl (ar_conv ir iz (in_i32 (by omega) (by omega)))) λA=>?_;iterate 2 refine sda A λA=>?_
   refine qa ?_;exact au _ _ ⟨1,(((l.getD i 0).toNat:Nat):Int),(by unfold LeadU; omega),A.keep _ (by repeat' constructor),M⟩
  ·have am':=fy am;refine sdc A qy am λA=>?_;refine sda A λA=>?_;refine qcf bn A ?_;refine wsr fun _ bp=>sdm A λA=>?_;refine sdo (v:=.int .u8 (((((l.getD i 0).toNat:Nat):Int)) / 32)) A (qb rfl rfl (ar_shr (n:=5) rfl rfl rfl)) λA=>?_;rcases tf ((((((l.getD i 0).toNat:Nat):Int)) / 32==6))with ap|ap
   ·have ap':=gr ap;refine sdc A qe ap λA=>?_;refine sda A λA=>?_;refine qct bp A ?_;refine wrl (sdm A λA=>?_);refine sdo (v:=.int .u8 (((((l.getD i 0).toNat:Nat):Int))%32)) A (qb rfl rfl (ar_and (zld 5 31 rfl (by decide) (by omega) (by omega)))) λA=>?_;refine sdo (v:=.int .i32 (((((l.getD i 0).toNat:Nat):Int))%32)) A (zk rfl (ar_conv ir iz (in_i32 (by omega) (by omega)))) λA=>?_;iterate 2 refine sda A λA=>?_
    refine qa ?_;exact au _ _ ⟨2,((((l.getD i 0).toNat:Nat):Int))%32,(by unfold LeadU; omega),A.keep _ (by repeat' constructor),M⟩
   ·have ap':=f6 ap;refine sdc A qe ap λA=>?_;refine sda A λA=>?_;refine qcf bp A ?_;refine wsr fun _ bq=>sdm A λA=>?_;refine sdo (v:=.int .u8 (((((l.getD i 0).toNat:Nat):Int)) / 16)) A (qb rfl rfl (ar_shr (n:=4) rfl rfl rfl)) λA=>?_;rcases tf ((((((l.getD i 0).toNat:Nat):Int)) / 16==14))with aq|aq
    ·have aq':=gr aq;refine sdc A qe aq λA=>?_;refine sda A λA=>?_;refine qct bq A ?_;refine wrl (sdm A λA=>?_);refine sdo (v:=.int .u8 (((((l.getD i 0).toNat:Nat):Int))%16)) A (qb rfl rfl (ar_and (zld 4 15 rfl (by decide) (by omega) (by omega)))) λA=>?_;refine sdo (v:=.int .i32 (((((l.getD i 0).toNat:Nat):Int))%16)) A (zk rfl (ar_conv ir iz (in_i32 (by omega) (by omega)))) λA=>?_;iterate 2 refine sda A λA=>?_
     refine qa ?_;exact au _ _ ⟨3,((((l.getD i 0).toNat:Nat):Int))%16,(by unfold LeadU; omega),A.keep _ (by repeat' constructor),M⟩
    ·have aq':=f6 aq;refine sdc A qe aq λA=>?_;refine sda A λA=>?_;refine qcf bq A ?_;refine wsr fun _ br=>sdm A λA=>?_;refine sdo (v:=.int .u8 (((((l.getD i 0).toNat:Nat):Int)) / 8)) A (qb rfl rfl (ar_shr (n:=3) rfl rfl rfl)) λA=>?_;rcases tf ((((((l.getD i 0).toNat:Nat):Int)) / 8==30))with ar|ar
     ·have ar':=gr ar;refine sdc A qe ar λA=>?_;refine sda A λA=>?_;refine qct br A ?_;refine wrl (sdm A λA=>?_);refine sdo (v:=.int .u8 (((((l.getD i 0).toNat:Nat):Int))%8)) A (qb rfl rfl (ar_and (zld 3 7 rfl (by decide) (by omega) (by omega)))) λA=>?_;refine sdo (v:=.int .i32 (((((l.getD i 0).toNat:Nat):Int))%8)) A (zk rfl (ar_conv ir iz (in_i32 (by omega) (by omega)))) λA=>?_;iterate 2 refine sda A λA=>?_
      refine qa ?_;exact au _ _ ⟨4,((((l.getD i 0).toNat:Nat):Int))%8,(by unfold LeadU; omega),A.keep _ (by repeat' constructor),M⟩
     ·have ar':=f6 ar;refine sdc A qe ar λA=>?_;refine sda A λA=>?_;refine qcf br A ?_;refine wp_skip ?_;exact au _ _ ⟨0,0,(by unfold LeadU; omega),A.keep _ (by repeat' constructor),M⟩
 ·have aa':=fy aa;refine sdc A qy aa λA=>?_;refine qcf bg A ?_;refine wp_exit (dq _ _ (wsr fun _ df=>sdm A λA=>?_));refine sda A λA=>?_;refine qr1 df hret A ?_;rw[zye (by omega),gh]at hrun;subst hrun;exact⟨_,rfl,M⟩
open Go.RowKit Go.Lib
theorem qjc{w:World}{B:Nat}{e:TypeId}{sz:Nat}{v:Value}{n:Nat}{xs:List Value}(h:w.ownsRow B e sz v n xs):∃so cap,v=.slice so n cap:=by
  rcases h.2 with⟨rfl,rfl⟩|⟨g,cap,cur,rfl,_⟩
  · exact⟨none,0,rfl⟩
  · exact⟨_,cap,rfl⟩
section
variable {P:Program} {w0 w:World} {L:List Ck} {l:List (Nat×Value)} {dst:Option Tmp} {ty:TypeId} {pos:String} {after:Array Edge} {guard:Option (Nat×Bool)} {v:Value}
theorem zyh{w':World}{s d:TypeId}{x:Operand}{u:Value}(hx:ev l x=some u)(hr:(convert s d u).run P w=.ok v w'):Does P l ⟨dst,.convert s d x,ty,pos,after,guard⟩ w v w':=fun ρ h=>by
  simp only[execOp,h x _ hx,Sem.run_bind,hr,Result.andThen_ok,Sem.run_pure]
theorem qpg(hM:Mg w0 w L)(k:Nat){e:TypeId}{sz n cap:Nat}{so:Option Addr}{xs:List Value}(hk:L[k]?=some (.row e sz (.slice so n cap) n xs))(hn:0<n):∃g,so=some ⟨g,0,none⟩:=by
  rcases(hM.has k hk).2 with⟨_,h0⟩|⟨g,cap',cur,he,_⟩
  · omega
  · cases he; exact⟨g,rfl⟩
theorem jn{t e:TypeId}{sz:Nat}(hu:P.underlying t=some (.slice e))(he:(P.info? e).map (·.size)=some sz){x i:Operand}{so:Option Addr}{g n c k:Nat}{z:Int}(hx:ev l x=some (.slice so n c))(hi:ev l i=some (.int .i64 z))(hz:z=(k:Nat))(hso:so=some ⟨g,0,none⟩)(hk:k<n):
    Does P l ⟨dst,.indexAddr t x i,ty,pos,after,guard⟩ w (.pointer (some ⟨g,k*sz,none⟩)) w:=by
  subst hso;exact qaa hu he hx hi hz hk
theorem vv(hM:Mg w0 w L)(k:Nat){e:TypeId}{sz g n c j:Nat}{so:Option Addr}{xs:List Value}(hk:L[k]?=some (.row e sz (.slice so n c) n xs))(hso:so=some ⟨g,0,none⟩)(hj:xs[j]?=some v){t:TypeId}(ht:Is1 P t){x:Operand}(hx:ev l x=some (.pointer (some ⟨g,j,none⟩))):Does P l ⟨dst,.load t x,ty,pos,after,guard⟩ w v w:=by
  subst hso;exact qog hM k hk hj ht hx
theorem jqf(hM:Mg w0 w L)(k:Nat){e:TypeId}{sz g n c o m:Nat}{so:Option Addr}{xs cs:List Value}(hk:L[k]?=some (.row e sz (.slice so n c) n xs))(hso:so=some ⟨g,0,none⟩){t:TypeId}(ht:IsS P t m)(hcs:(xs.drop o).take m=cs)(hl:cs.length=m){x:Operand}(hx:ev l x=some (.pointer (some ⟨g,o,none⟩))):Does P l ⟨dst,.load t x,ty,pos,after,guard⟩ w (.agg cs.toArray) w:=by
  subst hso;exact zoa hM k hk ht hcs hl hx
end
section
variable {P:Program} {w0 w:World} {L:List Ck} {l:List (Nat×Value)} {ops:List Oper} {Q:Exit→Act→World→Prop} {a:Act} {n:Nat} {rest:List Oper} {d:Nat} {dst:Option Tmp} {ty:TypeId} {pos:String} {after:Array Edge} {guard:Option (Nat×Bool)}
theorem xai(hA:Sl a n l)(hM:Mg w0 w L){t t':TypeId}{x:Operand}{s:ByteArray}{o:Oper}(ho:o=⟨dst,.convert t t' x,ty,pos,after,guard⟩)(ht:P.underlying t=some .string)(hd:P.underlying t'=some (.slice BY))(he:P.underlying BY=some (.int .u8))(hx:ev l x=some (.string s))(hg:zf l ops o=true)(hdst:o.dst=some d)(hdn:Nat.blt d n=true)
    (hk:∀so cap w',Rb w' so s.data.toList→Mg w0 w' L→∀a',Sl a' n ((d,.slice so s.data.toList.length cap)::l)→wpList P ops.toArray Q rest a' w'):wpList P ops.toArray Q (o::rest) a w:=by
  subst ho;have hr:=Go.Lib.run_convert_string_bytes (P:=P) w t t' BY s ht hd he;have hb:Below w.heap.size w (bytesWorld w BY s):=⟨rfl,rfl,rfl,by rw[bytesWorld_size]; omega,fun j hj=>bytesWorld_at_old w BY s j hj⟩;refine kh hA hg hdst hdn (v:=.slice (some ⟨w.heap.size,0,none⟩) s.data.toList.length (grownCap w s.size 0 BY)) (w':=bytesWorld w BY s) (zyh hx (by rw[zm]; exact hr)) (hk _ _ _ ⟨fun _=>⟨w.heap.size,0,rfl,by rw[bytesWorld_size]; omega,fun j hj=>?_⟩⟩ (hM.call hb));rw[zm]at hj;rw[Nat.zero_add];exact bytesWorld_cell w BY s j hj
end
theorem zac(u:Int×Int)(us:List (Int×Int)):xv (u::us)=(if u.2=-1 then[.int .i32 0,.bool true,.int .i64 u.1]else[.int .i32 u.2,.bool false,.int .i64 u.1])++xv us:=rfl
theorem zad: ∀(us:List (Int×Int)) (i f:Nat) (u:Int×Int),us[i]?=some u→f<3→(xv us)[i*3+f]?=(if u.2=-1 then[Value.int .i32 0,.bool true,.int .i64 u.1]else[.int .i32 u.2,.bool false,.int .i64 u.1])[f]?
  | [], i, f, u, h, hf => by simp at h
  | v :: us, 0, f, u, h, hf => by
    simp only[List.getElem?_cons_zero,Option.some.injEq]at h;subst h;rw[zac,Nat.zero_mul,Nat.zero_add,List.getElem?_append_left]
    split<;>exact hf
  | v :: us, i + 1, f, u, h, hf => by
    rw[List.getElem?_cons_succ]at h;rw[zac,List.getElem?_append_right (by split<;>(simp only[fw,fx]; omega))];have e:(i+1)*3+f-(if v.2=-1 then[Value.int .i32 0,.bool true,.int .i64 v.1]else[.int .i32 v.2,.bool false,.int .i64 v.1]).length=i*3+f:=by
      split<;>(simp only[fw,fx]; omega)
    rw[e];exact zad us i f u h hf
theorem jqg{us:List (Int×Int)}{i:Nat}(h:i<us.length):∃ua ur,us[i]?=some (ua,ur):=⟨_,_,List.getElem?_eq_getElem h⟩
theorem zae: ∀(f p:Nat) (l:List UInt8),(kl f p l).length≤l.length
  | 0, _, _ => ii _
  | f + 1, p, l => by
    by_cases hl:l=[]
    · subst hl; simp[kl]
    · rw[qtj hl,fw];have h1:=zae f (p+(decodeL l).2) (l.drop (decodeL l).2);have h2:=vt l hl;rw[il]at h1;omega
theorem jqh(l:List UInt8)(h:(decodeL l).1=65533):(decodeL l).2=1∨(decodeL l).2=3∨(decodeL l).2=0:=by
  rw[decodeL_N]at h ⊢;generalize (l.getD 0 0).toNat=b0 at h ⊢;generalize (l.getD 1 0).toNat=b1 at h ⊢;generalize (l.getD 2 0).toNat=b2 at h ⊢;generalize (l.getD 3 0).toNat=b3 at h ⊢;unfold decodeN at h ⊢;repeat' split
  all_goals (simp_all)
  all_goals omega
theorem qle: ∀(f p:Nat) (l:List UInt8),validGoD f l=(kl f p l).all (fun u=>!decide (u.2=-1))
  | 0, p, l => rfl
  | f + 1, p, l => by
    unfold validGoD kl;by_cases hl:l=[]
    · rw[gj hl,gj hl]; rfl
    · rw[f7 hl,f7 hl,List.all_cons];have hw:=vt l hl;have h3:=jqh l;by_cases hb:(decodeL l).1=65533∧(decodeL l).2=1
      · rw[gj hb];have:uR (decodeL l).1 (decodeL l).2=-1:=(by unfold uR; rw[gj ⟨hb.1,by omega⟩]);rw[this]; rfl
      · rw[f7 hb];have:¬uR (decodeL l).1 (decodeL l).2=-1:=by
          unfold uR;by_cases h9:(decodeL l).1=65533
          · rw[f7 (by have:=h3 h9; omega)]; omega
          · rw[f7 (fun e=>h9 e.1)]; omega
        rw[gn this,qle f (p+(decodeL l).2)];simp
theorem zgg(s:ByteArray):okS s=(xh s.data.toList).all (fun u=>!decide (u.2=-1)):=qle _ 0 _
theorem xaj{s:ByteArray}{i:Nat}{ua ur:Int}(h:(xh s.data.toList)[i]?=some (ua,ur))(hr:ur=-1):okS s=false:=by
  rw[zgg];apply lj.2;intro k;have:=j3.1 k _ (List.mem_of_getElem? h);simp[hr]at this
theorem jqi{s:ByteArray}(h:∀(i:Nat) (ua ur:Int),(xh s.data.toList)[i]?=some (ua,ur)→ur≠-1):okS s=true:=by
  rw[zgg,j3];intro u hu;obtain⟨i,hi⟩:=List.mem_iff_getElem?.1 hu;simp[h i u.1 u.2 hi]
theorem zrh{w:World}{so:Option Addr}{cap:Nat}{l:List UInt8}(hb:Rb w so l)(hlen:l.length≤4000000):Calls Tryz.prog 191 #[iV 1,.slice so l.length cap] w fun e w'=>∃v,e=.returned v∧Mg w w' [.row 211 3 v (xh l).length (xv (xh l))]:=by
 have M:=Mg.start w;refine wof Tryz.func191 Tryz.ntmps191 fun Q hret hnorm hP a A=>?_;refine wsr fun _ aa=>sda A λA=>?_;refine qwk aa fun _ _=>wsr fun _ ab=>sdm A λA=>?_;refine sdo (v:=bV true) A dbK λA=>?_;refine qct ab A ?_;refine wsr fun K4 ac=>sdm A λA=>?_;refine sct A ec (jhj (hb.below M.bel) hlen) ?_;rintro _ _ ⟨_,rfl,ae⟩;replace M:=(M.both ae (za zd) (qi (by simp) (za zd)));refine⟨_,rfl,?_⟩;intro a A;refine sda A λA=>?_;refine qr1 ac hret A ?_;exact⟨_,rfl,M⟩
theorem zaf{w:World}{s:ByteArray}(hs:s.size≤4000000){r:Bool}(hr:okS s=r):Calls Tryz.prog 141 #[.string s] w (RB w (bV r)):=by
 have hul:(xh s.data.toList).length≤s.data.toList.length:=zae _ _ _;have hsl:s.data.toList.length≤4000000:=by rw[zm]; exact hs
 have M:=Mg.start w;refine wof Tryz.func141 Tryz.ntmps141 fun Q hret hnorm hP a A=>?_;refine wsr fun _ av=>sda A λA=>?_;refine qwr av fun _ aw=>sdm A λA=>?_;refine xai A M rfl gi ib ir rfl rfl rfl rfl ?_;intro ax ay _ hrb6 M a A;refine sct A ec (zrh hrb6 (by rw[zm]; exact hs)) ?_;rintro _ _ ⟨_,rfl,au⟩;obtain⟨ag,ah,rfl⟩:=qjc (au.has 0 rfl);replace M:=(M.both au (za zd) (qi (by simp) (za zd)));refine⟨_,rfl,?_⟩;intro a A;refine sda A λA=>?_;refine qwk aw fun _ ai=>wsr fun _ aj=>sda A λA=>?_;refine qa (aj _ _ (wp_block (zg (fun m_ a w1=>∃(i:Nat),m_=1+((xh s.data.toList).length-i)∧(i≤(xh s.data.toList).length∧∀j ua ur,j<i→(xh s.data.toList)[j]?=some (ua,ur)→ur≠-1)∧Sl a 19 [(0,.string s),(3,.slice ag ((xh s.data.toList).length) ah),(4,iV (((i:Nat):Int))),(5,.string s),(6,.slice ax s.data.toList.length ay),(7,.slice ag ((xh s.data.toList).length) ah)]∧Mg w w1 (.row 211 3 (.slice ag ((xh s.data.toList).length) ah) ((xh s.data.toList).length) ((xv (xh s.data.toList)))::[])) _ ⟨0,rfl,⟨ii _,fun j ua ur hj=>absurd hj (j4 _)⟩,A.keep _ (by repeat' constructor),M⟩ ?_)));clear M A;rintro m_ a _ ⟨i,rfl,ab,A,M⟩ _ ak;obtain⟨_,ac⟩:=ab;refine wsk fun _ am=>wsr fun _ ae=>?_;iterate 2 refine sdm A λA=>?_
 refine sdo A (qr Tryz.underlying208 rfl) λA=>?_;rcases tf (decide (((i:Nat):Int)<(((xh s.data.toList).length:Nat):Int)))with aa|aa
 ·have aa':=f5 aa;refine sdc A qy aa λA=>?_;refine qct ae A ?_;refine wp_skip (am _ _ (wsk fun _ ap=>wp_block (wsr fun _ af=>?_)));iterate 2 refine sdm A λA=>?_
  obtain⟨gu,hgu⟩:=qpg M 0 rfl (by omega);obtain⟨ua,ur,hu⟩:=jqg (us:=xh s.data.toList) (i:=i) (by omega);refine sdo (v:=pA gu (i*3)) A (jn Tryz.underlying208 (by kernel_rfl) rfl rfl rfl hgu (show i<(xh s.data.toList).length by omega)) λA=>?_;refine sdo (v:=pA gu (i*3+1)) A (qp jyh rfl rfl) λA=>?_;by_cases hf:ur=-1
  ·refine sdo (v:=bV true) A (vv M 0 rfl hgu ((zad _ i 1 _ hu (by decide)).trans (by rw[gj hf]; rfl)) o94 rfl) λA=>?_;refine qct af A ?_;refine wsr fun _ aq=>sda A λA=>?_;refine qr1 aq hret A ?_;subst hr;exact⟨by rw[xaj hu hf],M.bel⟩
  ·refine sdo (v:=bV false) A (vv M 0 rfl hgu ((zad _ i 1 _ hu (by decide)).trans (by rw[f7 hf]; rfl)) o94 rfl) λA=>?_;refine qcf af A ?_;refine wp_skip (ap _ _ (wrl (sdm A λA=>?_)));refine sdo (v:=iV (((i+1:Nat):Int))) A (qb rfl rfl (fun w=>(zq (jk (by omega) (by omega)) w).trans (by rw[show(((i:Nat):Int)+1:Int)=((i+1:Nat):Int)from by omega]))) λA=>?_;refine sda A λA=>?_;refine qa ?_;refine ak _ _ _ (by omega) ⟨i+1,rfl,⟨by omega,fun j va vr hj hv=>if h9:j<i then ac j va vr h9 hv else by have h8:j=i:=(by omega); subst h8; rw[hu]at hv; injection hv with h7; injection h7 with _ h6; rw[←h6]; exact hf⟩,A.keep _ (by repeat' constructor),M⟩
 ·have aa':=fy aa;refine sdc A qy aa λA=>?_;refine qcf ae A ?_;refine wp_exit (ai _ _ (wsr fun _ ar=>sda A λA=>?_));refine qr1 ar hret A ?_;subst hr;exact⟨by rw[jqi (fun j ua ur hj=>ac j ua ur (by have:=(List.getElem?_eq_some_iff.1 hj).1; omega) hj)],M.bel⟩
theorem zgh{w:World}{n:Int}{r:Bool}(hr:yw n=r):Calls Tryz.prog 143 #[iV n] w (RB w (bV r)):=by
 have M:=Mg.start w;refine wof Tryz.func143 Tryz.ntmps143 fun Q hret hnorm hP a A=>?_;refine wsr fun _ ag=>sda A λA=>?_;refine qwr ag fun _ af=>sdm A λA=>?_;rcases tf (decide (0≤n))with aa|aa
 ·have aa':=f5 aa;refine sdc A zt aa λA=>?_;iterate 2 refine sdm A λA=>?_
  rcases tf (decide (n≤1114111))with ab|ab
  ·have ab':=f5 ab;refine sdc A xi ab λA=>?_;refine sdk (v:=bV true) A λA=>?_;iterate 2 refine sdm A λA=>?_
   rcases tf (decide (n<55296))with ac|ac
   ·have ac':=f5 ac;refine sdc A qy ac λA=>?_;refine sdm A λA=>?_;iterate 2 refine sks A λA=>?_
    iterate 2 refine sdk (v:=bV true) A λA=>?_
    refine sda A λA=>?_;refine qr1 af hret A ?_;subst hr;exact⟨by rw[show yw n=true from by unfold yw; apply gv; omega],M.bel⟩
   ·have ac':=fy ac;refine sdc A qy ac λA=>?_;iterate 2 refine sdm A λA=>?_
    rcases tf (decide (57343<n))with ae|ae
    ·have ae':=f5 ae;refine sdc A jh ae λA=>?_;iterate 2 refine sdk (v:=bV true) A λA=>?_
     refine sda A λA=>?_;refine qr1 af hret A ?_;subst hr;exact⟨by rw[show yw n=true from by unfold yw; apply gv; omega],M.bel⟩
    ·have ae':=fy ae;refine sdc A jh ae λA=>?_;iterate 2 refine sdk (v:=bV false) A λA=>?_
     refine sda A λA=>?_;refine qr1 af hret A ?_;subst hr;exact⟨by rw[show yw n=false from by unfold yw; apply gn; omega],M.bel⟩
  ·have ab':=fy ab;refine sdc A xi ab λA=>?_;refine sdk (v:=bV false) A λA=>?_;refine sdm A λA=>?_;iterate 3 refine sks A λA=>?_
   iterate 2 refine qbh A rfl rfl rfl λa A=>?_
   refine sks A λA=>?_;refine sdk (v:=bV false) A λA=>?_;refine sda A λA=>?_;refine qr1 af hret A ?_;subst hr;exact⟨by rw[show yw n=false from by unfold yw; apply gn; omega],M.bel⟩
 ·have aa':=fy aa;refine sdc A zt aa λA=>?_;refine sdm A λA=>?_;iterate 2 refine sks A λA=>?_
  refine sdk (v:=bV false) A λA=>?_;refine sdm A λA=>?_;iterate 3 refine sks A λA=>?_
  iterate 2 refine qbh A rfl rfl rfl λa A=>?_
  refine sks A λA=>?_;refine sdk (v:=bV false) A λA=>?_;refine sda A λA=>?_;refine qr1 af hret A ?_;subst hr;exact⟨by rw[show yw n=false from by unfold yw; apply gn; omega],M.bel⟩
def kw(k n:Int)(q:Q6)(s:ByteArray)(mr ml:Nat):Bool:=
 if k<1∨11<k∨okS s=false then false
 else if k=3∧xt q=false then false
 else if k≠3∧(ye q.b1 q.t1.length q.q1.length=false∨ye q.b2 q.t2.length q.q2.length=false)then false
 else if s≠⟨#[]⟩∧k≠5∧k≠6∧k≠11 then false
 else if 0<mr∧k≠7 then false
 else if k=2∧n≠0∧n≠1 then false
 else if k=4∧yw n=false then false
 else if k≠2∧k≠4∧n≠0 then false
 else if k=8 then decide (ml=2)
 else decide (k=9∨ml=0)
theorem xba: okS ⟨#[]⟩=true:=by unfold okS; rfl
theorem jp(k n:Int)(q:Q6)(s:ByteArray)(mr ml:Nat):jm k n q s mr ml=kw k n q s mr ml:=by
 have hv:s=⟨#[]⟩→okS s=true:=by rintro rfl; exact xba
 have hn0:ye false 0 0=true:=rfl;unfold jm kw;by_cases hk:k<1∨11<k
 ·rw[gj (show k<1∨11<k∨okS s=false by omega)];repeat (rw[f7 (by omega)])
 ·have h11:k=1∨k=2∨k=3∨k=4∨k=5∨k=6∨k=7∨k=8∨k=9∨k=10∨k=11:=by omega
  simp only[kg,hn0];generalize ye q.b1 q.t1.length q.q1.length=B1;generalize ye q.b2 q.t2.length q.q2.length=B2;generalize xt q=S1;generalize yw n=S2;by_cases hs:s=⟨#[]⟩
  ·rw[hv hs];have hs2:¬s≠⟨#[]⟩:=fun h=>h hs;rcases h11 with h|h|h|h|h|h|h|h|h|h|h<;>subst h<;>cases B1<;>cases B2<;>cases S1<;>cases S2<;>simp[hs]<;>by_cases hm:mr=0<;>simp[hm]<;>by_cases hn:n=0<;>simp[hn]<;>first|omega|(by_cases hn1:n=1<;>simp[hn1])|skip
  ·cases hV:okS s<;>rcases h11 with h|h|h|h|h|h|h|h|h|h|h<;>subst h<;>cases B1<;>cases B2<;>cases S1<;>cases S2<;>simp[hs]<;>by_cases hm:mr=0<;>simp[hm]<;>by_cases hn:n=0<;>simp[hn]<;>first|omega|skip
section
variable {k n:Int} {q:Q6} {s:ByteArray} {mr ml:Nat}
def ShA(k:Int)(s:ByteArray):Prop:=1≤k∧k≤11∧okS s=true
def ShB(k:Int)(q:Q6):Prop:=(k=3→xt q=true)∧(k≠3→ye q.b1 q.t1.length q.q1.length=true∧ye q.b2 q.t2.length q.q2.length=true)
def ShC(k:Int)(s:ByteArray):Prop:=s=⟨#[]⟩∨k=5∨k=6∨k=11
def ShD(k:Int)(mr:Nat):Prop:=mr=0∨k=7
def ShE(k n:Int):Prop:=(k=2→n=0∨n=1)∧(k=4→yw n=true)∧(k≠2→k≠4→n=0)
theorem sh1(h:k<1∨11<k∨okS s=false):kw k n q s mr ml=false:=by unfold kw; rw[gj h]
theorem shA(a:ShA k s):¬(k<1∨11<k∨okS s=false):=fun e=>by
 rcases e with e|e|e
 ·have:=a.1; omega
 ·have:=a.2.1; omega
 ·rw[a.2.2]at e; cases e
theorem sh2(a:ShA k s)(h:k=3)(S:xt q=false):kw k n q s mr ml=false:=by unfold kw; rw[f7 (shA a),gj ⟨h,S⟩]
theorem sh3(a:ShA k s)(h:k≠3)(S:ye q.b1 q.t1.length q.q1.length=false∨ye q.b2 q.t2.length q.q2.length=false):kw k n q s mr ml=false:=by unfold kw; rw[f7 (shA a),f7 (fun e=>h e.1),gj ⟨h,S⟩]
theorem xbb(b:ShB k q):¬(k=3∧xt q=false):=fun e=>by have:=b.1 e.1; rw[e.2]at this; cases this
theorem xbc(b:ShB k q):¬(k≠3∧(ye q.b1 q.t1.length q.q1.length=false∨ye q.b2 q.t2.length q.q2.length=false)):=fun e=>by
 have:=b.2 e.1;rcases e.2 with h|h
 ·rw[this.1]at h; cases h
 ·rw[this.2]at h; cases h
theorem sh4(a:ShA k s)(b:ShB k q)(h:s≠⟨#[]⟩∧k≠5∧k≠6∧k≠11):kw k n q s mr ml=false:=by unfold kw; rw[f7 (shA a),f7 (xbb b),f7 (xbc b),gj h]
theorem shC(c:ShC k s):¬(s≠⟨#[]⟩∧k≠5∧k≠6∧k≠11):=fun e=>by rcases c with h|h|h|h<;>first|exact e.1 h|exact e.2.1 h|exact e.2.2.1 h|exact e.2.2.2 h
theorem sh5(a:ShA k s)(b:ShB k q)(c:ShC k s)(h:0<mr∧k≠7):kw k n q s mr ml=false:=by unfold kw; rw[f7 (shA a),f7 (xbb b),f7 (xbc b),f7 (shC c),gj h]
theorem shD(d:ShD k mr):¬(0<mr∧k≠7):=fun e=>by rcases d with h|h<;>omega
theorem sh6(a:ShA k s)(b:ShB k q)(c:ShC k s)(d:ShD k mr)(h:(k=2∧n≠0∧n≠1)∨(k=4∧yw n=false)∨(k≠2∧k≠4∧n≠0)):kw k n q s mr ml=false:=by
 unfold kw;rw[f7 (shA a),f7 (xbb b),f7 (xbc b),f7 (shC c),f7 (shD d)];rcases h with h|h|h
 ·rw[gj h]
 ·rw[f7 (by omega),gj h]
 ·rw[f7 (by omega),f7 (fun e=>h.2.1 e.1),gj h]
theorem sh9(a:ShA k s)(b:ShB k q)(c:ShC k s)(d:ShD k mr)(e:ShE k n):kw k n q s mr ml=if k=8 then decide (ml=2)else decide (k=9∨ml=0):=by
 unfold kw;have e1:=e.1;have e3:=e.2.2;rw[f7 (shA a),f7 (xbb b),f7 (xbc b),f7 (shC c),f7 (shD d),f7 (fun h=>by have:=e1 h.1; omega),f7 (fun h=>by have:=e.2.1 h.1; rw[h.2]at this; cases this),f7 (fun h=>by have:=e3 h.1 h.2.1; omega)]
end
theorem zag{w:World}{d:Nd}{ts:List Dt}(hok:NdOk w d)(hs2:d.s.size≤4000000)(hlen:ts.length≤9223372036854775807){r:Bool}(hr:jm d.k d.n d.y.q d.s d.rl.length ts.length=r):Calls Tryz.prog 98 #[.agg (d.cells ts.length).toArray] w (RB w (bV r)):=by
 have hrl:d.rl.length≤9223372036854775807:=gz hok.rcap hok.rmax;have M:=Mg.start w;refine wof Tryz.func98 Tryz.ntmps98 fun Q hret hnorm hP a A=>?_;refine wsr fun _ dq=>zj (vs:=[iV d.k,iV d.n,bV d.y.q.b1,.slice d.y.o1 d.y.q.t1.length d.y.c1,.slice d.y.o2 d.y.q.q1.length d.y.c2,bV d.y.q.b2,.slice d.y.o3 d.y.q.t2.length d.y.c3,.slice d.y.o4 d.y.q.q2.length d.y.c4,.string d.s,.slice d.ro d.rl.length d.rc,.slice d.lo ts.length d.lc]) (t:=30) A M rfl rfl rfl pg (qx rfl rfl) (by decide) ?_;intro g2 _ M a A;refine sda A λA=>?_;refine qwk dq fun K4 dr=>?_;have dt:∀a w1,((ShA d.k d.s)∧Sl a 100 [(0,.agg (d.cells ts.length).toArray),(1,pA g2 0)]∧Mg w w1 (.obj g2 (.cells (d.cells ts.length).toArray 30)::[]))→K4 a w1:=by
  clear A M;rintro a _ ⟨du,A,M⟩;have hSA:=du;refine dr _ _ (wsk fun K8 dv=>?_);have dn:∀a w1,((ShB d.k d.y.q)∧Sl a 100 [(0,.agg (d.cells ts.length).toArray),(1,pA g2 0)]∧Mg w w1 (.obj g2 (.cells (d.cells ts.length).toArray 30)::[]))→K8 a w1:=by
   clear A M;rintro a _ ⟨cl,A,M⟩;have hSB:=cl;refine dv _ _ (wsk fun dw cm=>?_);have bi:∀a w1,((ShC d.k d.s)∧Sl a 100 [(0,.agg (d.cells ts.length).toArray),(1,pA g2 0)]∧Mg w w1 (.obj g2 (.cells (d.cells ts.length).toArray 30)::[]))→dw a w1:=by
    clear A M;rintro a _ ⟨cn,A,M⟩;have hSC:=cn;refine cm _ _ (wsk fun dx co=>?_);have bz:∀a w1,((ShD d.k d.rl.length)∧Sl a 100 [(0,.agg (d.cells ts.length).toArray),(1,pA g2 0)]∧Mg w w1 (.obj g2 (.cells (d.cells ts.length).toArray 30)::[]))→dx a w1:=by
     clear A M;rintro a _ ⟨cp,A,M⟩;have hSD:=cp;refine co _ _ (wsk fun dy cq=>?_);have bj:∀a w1,((ShE d.k d.n)∧Sl a 100 [(0,.agg (d.cells ts.length).toArray),(1,pA g2 0)]∧Mg w w1 (.obj g2 (.cells (d.cells ts.length).toArray 30)::[]))→dy a w1:=by
      clear A M;rintro a _ ⟨cr,A,M⟩;have hSE:=cr;refine cq _ _ (wsk fun _ cw=>wsr fun _ cc=>sdf A 0 xk λA=>?_);refine sdl A M o93 0 λA=>?_;rcases tf ((d.k==8))with ab|ab
      ·have ab':=gr ab;refine sdc A qe ab λA=>?_;refine qct cc A ?_;refine wsr fun _ cd=>sdf A 10 jz λA=>?_;refine sdl A M ke 0 λA=>?_;refine sdo A (qr f9 rfl) λA=>?_;rcases tf ((((ts.length:Nat):Int)==2))with ac|ac
       ·have ac':=gr ac;refine sdc A qe ac λA=>?_;refine sda A λA=>?_;refine qr1 cd hret A ?_;exact⟨by rw[←hr,jp,sh9 hSA hSB hSC hSD hSE,gj (by omega),gv (show(ts.length=2)by omega)],M.bel⟩
       ·have ac':=f6 ac;refine sdc A qe ac λA=>?_;refine sda A λA=>?_;refine qr1 cd hret A ?_;exact⟨by rw[←hr,jp,sh9 hSA hSB hSC hSD hSE,gj (by omega),gn (show ¬(ts.length=2)by omega)],M.bel⟩
      ·have ab':=f6 ab;refine sdc A qe ab λA=>?_;refine qcf cc A ?_;refine wp_skip (cw _ _ (wsr fun _ bp=>sdf A 0 xk λA=>?_));refine sdl A M o93 0 λA=>?_;rcases tf ((d.k==9))with ae|ae
       ·have ae':=gr ae;refine sdc A qe ae λA=>?_;refine sdm A λA=>?_;iterate 4 refine sks A λA=>?_
        refine sdk (v:=bV true) A λA=>?_;refine sda A λA=>?_;refine qr1 bp hret A ?_;exact⟨by rw[←hr,jp,sh9 hSA hSB hSC hSD hSE,f7 (by omega),gv (show(d.k=9∨ts.length=0)by omega)],M.bel⟩
       ·have ae':=f6 ae;refine sdc A qe ae λA=>?_;refine sdm A λA=>?_;refine sdf A 10 jz λA=>?_;refine sdl A M ke 0 λA=>?_;refine sdo A (qr f9 rfl) λA=>?_;rcases tf ((((ts.length:Nat):Int)==0))with af|af
        ·have af':=gr af;refine sdc A qe af λA=>?_;refine sdk (v:=bV true) A λA=>?_;refine sda A λA=>?_;refine qr1 bp hret A ?_;exact⟨by rw[←hr,jp,sh9 hSA hSB hSC hSD hSE,f7 (by omega),gv (show(d.k=9∨ts.length=0)by omega)],M.bel⟩
        ·have af':=f6 af;refine sdc A qe af λA=>?_;refine sdk (v:=bV false) A λA=>?_;refine sda A λA=>?_;refine qr1 bp hret A ?_;exact⟨by rw[←hr,jp,sh9 hSA hSB hSC hSD hSE,f7 (by omega),gn (show ¬(d.k=9∨ts.length=0)by omega)],M.bel⟩
     refine wsr fun _ cx=>sdf A 0 xk λA=>?_;refine sdl A M o93 0 λA=>?_;refine qa (cx _ _ (wp_block (wsr fun _ ce=>?_)));rcases tf ((d.k==2))with ag|ag
     ·have ag':=gr ag;refine sdc A qe ag λA=>?_;refine sda A λA=>?_;refine qct ce A ?_;refine wsr fun _ bq=>sdf A 1 vn λA=>?_;refine sdl A M o93 0 λA=>?_;rcases tf ((d.n != 0))with ah|ah
      ·have ah':=iy.1 ah;refine sdc A zh ah λA=>?_;refine sdm A λA=>?_;refine sdf A 1 vn λA=>?_;refine sdl A M o93 0 λA=>?_;rcases tf ((d.n != 1))with ai|ai
       ·have ai':=iy.1 ai;refine sdc A zh ai λA=>?_;refine sdk (v:=bV true) A λA=>?_;refine qct bq A ?_;refine wsr fun _ cy=>sda A λA=>?_;refine qr1 cy hret A ?_;exact⟨by rw[←hr,jp,sh6 hSA hSB hSC hSD (.inl ⟨by omega,by omega,by omega⟩)],M.bel⟩
       ·have ai':=ie.1 ai;refine sdc A zh ai λA=>?_;refine sdk (v:=bV false) A λA=>?_;refine qcf bq A ?_;refine wp_skip ?_;exact bj _ _ ⟨⟨fun h=>by omega,fun h=>absurd h (by omega),fun h h2=>by omega⟩,A.keep _ ⟨rfl,rfl,trivial⟩,M⟩
      ·have ah':=ie.1 ah;refine sdc A zh ah λA=>?_;refine sdm A λA=>?_;iterate 3 refine sks A λA=>?_
       refine sdk (v:=bV false) A λA=>?_;refine qcf bq A ?_;refine wp_skip ?_;exact bj _ _ ⟨⟨fun h=>by omega,fun h=>absurd h (by omega),fun h h2=>by omega⟩,A.keep _ ⟨rfl,rfl,trivial⟩,M⟩
     ·have ag':=f6 ag;refine sdc A qe ag λA=>?_;refine sda A λA=>?_;refine qcf ce A ?_;refine wsr fun _ cg=>?_;rcases tf ((d.k==4))with aj|aj
      ·have aj':=gr aj;refine sdc A qe aj λA=>?_;refine sda A λA=>?_;refine qct cg A ?_;refine wsr fun _ ch=>sdf A 1 vn λA=>?_;refine sdl A M o93 0 λA=>?_;rcases tf (yw d.n)with ay|ay
       ·refine gcl A M ec (zgh ay) fun _ _ M a A=>?_;refine sdu A λA=>?_;refine qcf ch A ?_;refine wp_skip ?_;exact bj _ _ ⟨⟨fun h=>by omega,fun h=>ay,fun h h2=>by omega⟩,A.keep _ ⟨rfl,rfl,trivial⟩,M⟩
       ·refine gcl A M ec (zgh ay) fun _ _ M a A=>?_;refine sdu A λA=>?_;refine qct ch A ?_;refine wsr fun _ cz=>sda A λA=>?_;refine qr1 cz hret A ?_;exact⟨by rw[←hr,jp,sh6 hSA hSB hSC hSD (.inr (.inl ⟨by omega,ay⟩))],M.bel⟩
      ·have aj':=f6 aj;refine sdc A qe aj λA=>?_;refine sda A λA=>?_;refine qcf cg A ?_;refine wsr fun _ ci=>sdf A 1 vn λA=>?_;refine sdl A M o93 0 λA=>?_;rcases tf ((d.n != 0))with ak|ak
       ·have ak':=iy.1 ak;refine sdc A zh ak λA=>?_;refine qct ci A ?_;refine wsr fun _ db=>sda A λA=>?_;refine qr1 db hret A ?_;exact⟨by rw[←hr,jp,sh6 hSA hSB hSC hSD (.inr (.inr ⟨by omega,by omega,by omega⟩))],M.bel⟩
       ·have ak':=ie.1 ak;refine sdc A zh ak λA=>?_;refine qcf ci A ?_;refine wp_skip ?_;exact bj _ _ ⟨⟨fun h=>by omega,fun h=>absurd h (by omega),fun h h2=>by omega⟩,A.keep _ ⟨rfl,rfl,trivial⟩,M⟩
    refine wsr fun _ br=>sdf A 9 qai λA=>?_;refine sdl A M quf 0 λA=>?_;refine sdo A (qr ib rfl) λA=>?_;rcases tf (decide (0<((d.rl.length:Nat):Int)))with am|am
    ·have am':=f5 am;refine sdc A jh am λA=>?_;refine sdm A λA=>?_;refine sdf A 0 xk λA=>?_;refine sdl A M o93 0 λA=>?_;rcases tf ((d.k != 7))with ap|ap
     ·have ap':=iy.1 ap;refine sdc A zh ap λA=>?_;refine sdk (v:=bV true) A λA=>?_;refine qct br A ?_;refine wsr fun _ dd=>sda A λA=>?_;refine qr1 dd hret A ?_;exact⟨by rw[←hr,jp,sh5 hSA hSB hSC ⟨by omega,by omega⟩],M.bel⟩
     ·have ap':=ie.1 ap;refine sdc A zh ap λA=>?_;refine sdk (v:=bV false) A λA=>?_;refine qcf br A ?_;refine wp_skip ?_;exact bz _ _ ⟨.inr (by omega),A.keep _ ⟨rfl,rfl,trivial⟩,M⟩
    ·have am':=fy am;refine sdc A jh am λA=>?_;refine sdm A λA=>?_;iterate 3 refine sks A λA=>?_
     refine sdk (v:=bV false) A λA=>?_;refine qcf br A ?_;refine wp_skip ?_;exact bz _ _ ⟨.inl (by omega),A.keep _ ⟨rfl,rfl,trivial⟩,M⟩
   refine wsr fun _ az=>sdf A 8 vg λA=>?_;refine sdl A M o99 0 λA=>?_;rcases tf (decide (d.s=⟨#[]⟩))with aa|aa
   ·have aa':=f5 aa;refine sdo (v:=bV false) A (qb rfl rfl (fun w=>(kx gi w).trans (by rw[aa]<;>rfl))) λA=>?_;refine sdm A λA=>?_;iterate 3 refine sks A λA=>?_
    refine sdk (v:=bV false) A λA=>?_;refine sdm A λA=>?_;iterate 3 refine sks A λA=>?_
    refine sdk (v:=bV false) A λA=>?_;refine sdm A λA=>?_;iterate 3 refine sks A λA=>?_
    refine sdk (v:=bV false) A λA=>?_;refine qcf az A ?_;refine wp_skip ?_;exact bi _ _ ⟨.inl aa',A.keep _ ⟨rfl,rfl,trivial⟩,M⟩
   ·have aa':=fy aa;refine sdo (v:=bV true) A (qb rfl rfl (fun w=>(kx gi w).trans (by rw[aa]<;>rfl))) λA=>?_;refine sdm A λA=>?_;refine sdf A 0 xk λA=>?_;refine sdl A M o93 0 λA=>?_;rcases tf ((d.k != 5))with aq|aq
    ·have aq':=iy.1 aq;refine sdc A zh aq λA=>?_;refine sdk (v:=bV true) A λA=>?_;refine sdm A λA=>?_;refine sdf A 0 xk λA=>?_;refine sdl A M o93 0 λA=>?_;rcases tf ((d.k != 6))with ar|ar
     ·have ar':=iy.1 ar;refine sdc A zh ar λA=>?_;refine sdk (v:=bV true) A λA=>?_;refine sdm A λA=>?_;refine sdf A 0 xk λA=>?_;refine sdl A M o93 0 λA=>?_;rcases tf ((d.k != 11))with au|au
      ·have au':=iy.1 au;refine sdc A zh au λA=>?_;refine sdk (v:=bV true) A λA=>?_;refine qct az A ?_;refine wsr fun _ de=>sda A λA=>?_;refine qr1 de hret A ?_;exact⟨by rw[←hr,jp,sh4 hSA hSB ⟨aa',by omega,by omega,by omega⟩],M.bel⟩
      ·have au':=ie.1 au;refine sdc A zh au λA=>?_;refine sdk (v:=bV false) A λA=>?_;refine qcf az A ?_;refine wp_skip ?_;exact bi _ _ ⟨.inr (by omega),A.keep _ ⟨rfl,rfl,trivial⟩,M⟩
     ·have ar':=ie.1 ar;refine sdc A zh ar λA=>?_;refine sdk (v:=bV false) A λA=>?_;refine sdm A λA=>?_;iterate 3 refine sks A λA=>?_
      refine sdk (v:=bV false) A λA=>?_;refine qcf az A ?_;refine wp_skip ?_;exact bi _ _ ⟨.inr (by omega),A.keep _ ⟨rfl,rfl,trivial⟩,M⟩
    ·have aq':=ie.1 aq;refine sdc A zh aq λA=>?_;refine sdk (v:=bV false) A λA=>?_;refine sdm A λA=>?_;iterate 3 refine sks A λA=>?_
     refine sdk (v:=bV false) A λA=>?_;refine sdm A λA=>?_;iterate 3 refine sks A λA=>?_
     refine sdk (v:=bV false) A λA=>?_;refine qcf az A ?_;refine wp_skip ?_;exact bi _ _ ⟨.inr (by omega),A.keep _ ⟨rfl,rfl,trivial⟩,M⟩
  refine wsr fun _ cj=>sdf A 0 xk λA=>?_;refine sdl A M o93 0 λA=>?_;rcases tf ((d.k==3))with av|av
  ·have av':=gr av;refine sdc A qe av λA=>?_;refine qct cj A ?_;refine wsr fun _ ck=>sdf A 2 uq λA=>?_;refine sdo A (qz M jnc rfl 0 rfl (cs:=[bV d.y.q.b1,.slice d.y.o1 d.y.q.t1.length d.y.c1,.slice d.y.o2 d.y.q.q1.length d.y.c2,bV d.y.q.b2,.slice d.y.o3 d.y.q.t2.length d.y.c3,.slice d.y.o4 d.y.q.q2.length d.y.c4]) rfl rfl) λA=>?_;rcases tf (xt d.y.q)with bd|bd
   ·refine gcl A M ec (qjb (Nu.below hok.num M.bel) hok.len bd) fun _ _ M a A=>?_;refine sdu A λA=>?_;refine qcf ck A ?_;refine wp_skip ?_;exact dn _ _ ⟨⟨fun _=>bd,fun h=>absurd (show d.k=3 by omega) h⟩,A.keep _ ⟨rfl,rfl,trivial⟩,M⟩
   ·refine gcl A M ec (qjb (Nu.below hok.num M.bel) hok.len bd) fun _ _ M a A=>?_;refine sdu A λA=>?_;refine qct ck A ?_;refine wsr fun _ df=>sda A λA=>?_;refine qr1 df hret A ?_;exact⟨by rw[←hr,jp,sh2 hSA (by omega) bd],M.bel⟩
  ·have av':=f6 av;refine sdc A qe av λA=>?_;refine qcf cj A ?_;refine wsr fun _ bw=>sdf A 2 uq λA=>?_;refine sdf A 2 zwe λA=>?_;refine sdo A (qz M zwg rfl 0 rfl (cs:=[bV d.y.q.b1,.slice d.y.o1 d.y.q.t1.length d.y.c1,.slice d.y.o2 d.y.q.q1.length d.y.c2]) rfl rfl) λA=>?_;rcases tf (ye d.y.q.b1 d.y.q.t1.length d.y.q.q1.length)with bf|bf
   ·refine gcl A M ec (qke hok.len.l1 hok.len.l2 bf) fun _ _ M a A=>?_;refine sdu A λA=>?_;refine sdm A λA=>?_;refine sdf A 2 uq λA=>?_;refine sdf A 5 zwf λA=>?_;refine sdo A (qz M zwg rfl 0 rfl (cs:=[bV d.y.q.b2,.slice d.y.o3 d.y.q.t2.length d.y.c3,.slice d.y.o4 d.y.q.q2.length d.y.c4]) rfl rfl) λA=>?_;rcases tf (ye d.y.q.b2 d.y.q.t2.length d.y.q.q2.length)with bg|bg
    ·refine gcl A M ec (qke hok.len.l3 hok.len.l4 bg) fun _ _ M a A=>?_;refine sdu A λA=>?_;refine sdk (v:=bV false) A λA=>?_;refine qcf bw A ?_;refine wp_skip ?_;exact dn _ _ ⟨⟨fun h=>absurd h (by omega),fun _=>⟨bf,bg⟩⟩,A.keep _ ⟨rfl,rfl,trivial⟩,M⟩
    ·refine gcl A M ec (qke hok.len.l3 hok.len.l4 bg) fun _ _ M a A=>?_;refine sdu A λA=>?_;refine sdk (v:=bV true) A λA=>?_;refine qct bw A ?_;refine wsr fun _ dg=>sda A λA=>?_;refine qr1 dg hret A ?_;exact⟨by rw[←hr,jp,sh3 hSA (by omega) (.inr bg)],M.bel⟩
   ·refine gcl A M ec (qke hok.len.l1 hok.len.l2 bf) fun _ _ M a A=>?_;refine sdu A λA=>?_;refine sdm A λA=>?_;iterate 5 refine sks A λA=>?_
    refine sdk (v:=bV true) A λA=>?_;refine qct bw A ?_;refine wsr fun _ dh=>sda A λA=>?_;refine qr1 dh hret A ?_;exact⟨by rw[←hr,jp,sh3 hSA (by omega) (.inl bf)],M.bel⟩
 refine wsr fun _ bn=>sdf A 0 xk λA=>?_;refine sdl A M o93 0 λA=>?_;rcases tf (decide (d.k<1))with aw|aw
 ·have aw':=f5 aw;refine sdc A qy aw λA=>?_;refine sdm A λA=>?_;iterate 3 refine sks A λA=>?_
  refine sdk (v:=bV true) A λA=>?_;refine sdm A λA=>?_;iterate 4 refine sks A λA=>?_
  refine sdk (v:=bV true) A λA=>?_;refine qct bn A ?_;refine wsr fun _ di=>sda A λA=>?_;refine qr1 di hret A ?_;exact⟨by rw[←hr,jp,sh1 (by omega)],M.bel⟩
 ·have aw':=fy aw;refine sdc A qy aw λA=>?_;refine sdm A λA=>?_;refine sdf A 0 xk λA=>?_;refine sdl A M o93 0 λA=>?_;rcases tf (decide (11<d.k))with ax|ax
  ·have ax':=f5 ax;refine sdc A jh ax λA=>?_;refine sdk (v:=bV true) A λA=>?_;refine sdm A λA=>?_;iterate 4 refine sks A λA=>?_
   refine sdk (v:=bV true) A λA=>?_;refine qct bn A ?_;refine wsr fun _ dj=>sda A λA=>?_;refine qr1 dj hret A ?_;exact⟨by rw[←hr,jp,sh1 (by omega)],M.bel⟩
  ·have ax':=fy ax;refine sdc A jh ax λA=>?_;refine sdk (v:=bV false) A λA=>?_;refine sdm A λA=>?_;refine sdf A 8 vg λA=>?_;refine sdl A M o99 0 λA=>?_;rcases tf (okS d.s)with bh|bh
   ·refine gcl A M ec (zaf hs2 bh) fun _ _ M a A=>?_;refine sdu A λA=>?_;refine sdk (v:=bV false) A λA=>?_;refine qcf bn A ?_;refine wp_skip ?_;exact dt _ _ ⟨⟨by omega,by omega,bh⟩,A.keep _ ⟨rfl,rfl,trivial⟩,M⟩
   ·refine gcl A M ec (zaf hs2 bh) fun _ _ M a A=>?_;refine sdu A λA=>?_;refine sdk (v:=bV true) A λA=>?_;refine qct bn A ?_;refine wsr fun _ dk=>sda A λA=>?_;refine qr1 dk hret A ?_;exact⟨by rw[←hr,jp,sh1 (.inr (.inr bh))],M.bel⟩
def Counts(t:Dt):Prop:=∀{w:World} {dp left:Int},t.rd w→t.tr.bulk≤4000000→0≤left→left≤20000→0≤dp→dp≤201→Calls Tryz.prog 66 #[.agg t.cells.toArray,iV dp,iV left] w (RB w (iV (qlb qh dp left t.tr)))
theorem jia: ∀t:Dt,Counts t:=Dt.indT fun d ts ih=>by
 intro w dp left hrd hbk hl0 hl1 hd0 hd1;have hok:=(Dt.rd_iff.1 hrd);have hlen:ts.length≤9223372036854775807:=gz hok.2.1 hok.2.2.1;have M:=Mg.start w;refine wof Tryz.func66 Tryz.ntmps66 fun Q hret hnorm hP a A=>?_;refine wsr fun K1 hK1=>zj (vs:=[iV d.k,iV d.n,bV d.y.q.b1,.slice d.y.o1 d.y.q.t1.length d.y.c1,.slice d.y.o2 d.y.q.q1.length d.y.c2,bV d.y.q.b2,.slice d.y.o3 d.y.q.t2.length d.y.c3,.slice d.y.o4 d.y.q.q2.length d.y.c4,.string d.s,.slice d.ro d.rl.length d.rc,.slice d.lo ts.length d.lc]) (t:=30) A M rfl rfl rfl pg (qx rfl rfl) (by decide) ?_;intro g2 w3 M a A;refine sda A λA=>?_;refine qwk hK1 fun K4 hK4=>wsr fun K5 hK5=>sdm A λA=>?_;rcases tf (decide (200<dp))with hb6|hb6
 ·have hb6':=f5 hb6;refine sdc A jh hb6 λA=>?_;refine sdm A λA=>?_;iterate 2 refine sks A λA=>?_
  refine sdk (v:=bV true) A λA=>?_;refine sdm A λA=>?_;iterate 3 refine sks A λA=>?_
  refine sdk (v:=bV true) A λA=>?_;refine qct hK5 A ?_;refine wsr fun K7 hK7=>sda A λA=>?_;refine qr1 hK7 hret A ?_;rw[zii (by omega)];exact⟨rfl,M.bel⟩
 ·have hb6':=fy hb6;refine sdc A jh hb6 λA=>?_;iterate 2 refine sdm A λA=>?_
  rcases tf (decide (left≤0))with hb8|hb8
  ·have hb8':=f5 hb8;refine sdc A xi hb8 λA=>?_;refine sdk (v:=bV true) A λA=>?_;refine sdm A λA=>?_;iterate 3 refine sks A λA=>?_
   refine sdk (v:=bV true) A λA=>?_;refine qct hK5 A ?_;refine wsr fun K9 hK9=>sda A λA=>?_;refine qr1 hK9 hret A ?_;rw[zii (by omega)];exact⟨rfl,M.bel⟩
  ·have hb8':=fy hb8;refine sdc A xi hb8 λA=>?_;refine sdk (v:=bV false) A λA=>?_;refine sdm A λA=>?_;refine sdo A (qz M zv rfl 0 rfl (cs:=[iV d.k,iV d.n,bV d.y.q.b1,.slice d.y.o1 d.y.q.t1.length d.y.c1,.slice d.y.o2 d.y.q.q1.length d.y.c2,bV d.y.q.b2,.slice d.y.o3 d.y.q.t2.length d.y.c3,.slice d.y.o4 d.y.q.q2.length d.y.c4,.string d.s,.slice d.ro d.rl.length d.rc,.slice d.lo ts.length d.lc]) rfl rfl) λA=>?_;rcases tf (jm d.k d.n d.y.q d.s d.rl.length ts.length)with hb10|hb10
   ·refine gcl A M ec (zag (hok.1.below M.bel) (gz zed hbk) hlen hb10) fun w12 hb11 M a A=>?_;refine sdu A λA=>?_;refine sdk (v:=bV false) A λA=>?_;refine qcf hK5 A ?_;refine wp_skip (hK4 _ _ (wsr fun K13 hK13=>sdm A λA=>?_));refine sdo (v:=iV (left-1)) A (qb rfl rfl (jbi (jk (by omega) (by omega)))) λA=>?_;refine sda A λA=>?_;refine qwk hK13 fun K14 hK14=>wsr fun K15 hK15=>sda A λA=>?_;refine qa (hK15 _ _ (wp_block (zg (fun m_ a w1=>∃(i:Nat) (m:Int),m_=1+(ts.length-i)∧(i≤ts.length∧qof qh dp (decide (d.k=8)) 0 (left-1) ((ts.map Dt.tr).drop 0)=qof qh dp (decide (d.k=8)) i m ((ts.map Dt.tr).drop i)∧-1≤m∧m≤20000)∧Sl a 52 [(0,.agg (d.cells ts.length).toArray),(1,iV dp),(2,iV m),(3,pA g2 0),(6,iV 0),(7,iV (((i:Nat):Int))),(9,iV dp),(10,bV false),(11,bV false),(12,iV left),(13,bV false),(14,bV false),(15,bV false),(16,.agg (d.cells ts.length).toArray),(17,bV true),(18,bV false),(19,bV false),(20,iV left),(21,iV (left-1))]∧Mg w w1 (.obj g2 (.cells (d.cells ts.length).toArray 30)::[])) _ ⟨0,left-1,rfl,⟨ii _,rfl,by omega,by omega⟩,A.keep _ (by repeat' constructor),M⟩ ?_)));clear M A;rintro m_ a w16 ⟨i,m,rfl,hinv18,A,M⟩ K17 hK17;obtain⟨hi0,hin9,hm0,hm1_⟩:=hinv18;refine wsk fun K19 hK19=>wsr fun K20 hK20=>sdm A λA=>?_;refine sdf A 10 jz λA=>?_;refine sdl A M ke 0 λA=>?_;refine sdo A (qr f9 rfl) λA=>?_;rcases tf (decide (((i:Nat):Int)<((ts.length:Nat):Int)))with hb21|hb21
    ·have hb21':=f5 hb21;refine sdc A qy hb21 λA=>?_;iterate 2 refine sdm A λA=>?_
     rcases tf (decide (0≤m))with hb22|hb22
     ·have hb22':=f5 hb22;refine sdc A zt hb22 λA=>?_;refine sdk (v:=bV true) A λA=>?_;refine qct hK20 A ?_;refine wp_skip (hK19 _ _ (wsk fun K23 hK23=>wp_block (wsr fun K24 hK24=>sdm A λA=>?_)));refine sdo (v:=iV (dp+1)) A (qb rfl rfl (zq (jk (by omega) (by omega)))) λA=>?_;refine sda A λA=>?_;refine qa (hK24 _ _ (wsk fun K25 hK25=>wsr fun K26 hK26=>sdf A 0 xk λA=>?_));refine sdl A M o93 0 λA=>?_;rcases tf ((d.k==8))with hb27|hb27
      ·have hb27':=gr hb27;refine sdc A qe hb27 λA=>?_;iterate 2 refine sdm A λA=>?_
       rcases tf ((((i:Nat):Int)==1))with hb28|hb28
       ·have hb28':=gr hb28;refine sdc A qe hb28 λA=>?_;refine sdk (v:=bV true) A λA=>?_;refine qct hK26 A ?_;refine wrl (sdm A λA=>?_);refine sda A λA=>?_;refine qa (hK25 _ _ ?_);obtain⟨t1,b1,o1,hi1,hm1,hr1,hl1,hH1⟩:=kid hrd (i:=i) (by omega);have hD:(if decide (d.k=8)=true∧i=1 then dp else dp+1)=dp:=gj ⟨gv hb27',by omega⟩;refine wrl (sdf A 10 jz λA=>?_);refine sdl A M ke 0 λA=>?_;refine sdm A λA=>?_;refine sdo (v:=pA b1 (o1+i*11)) A (qk (k:=i) f9 (by kernel_rfl) rfl rfl rfl hl1 (by omega)) λA=>?_;refine sdo A (zp M hH1 zv rfl rfl) λA=>?_;iterate 2 refine sdm A λA=>?_
        refine gcl A M ec (ih t1 hm1 (Dt.keep M.bel _ hr1) (by have:=qoh (d:=d) hm1; omega) (by omega) (by omega) (by omega) (by omega)) fun w30 hb29 M a A=>?_;refine sda A λA=>?_;refine qa (hK23 _ _ (wrl (sdm A λA=>?_)));refine sdo (v:=iV (((i+1:Nat):Int))) A (qb rfl rfl (fun w=>(zq (jk (by omega) (by omega)) w).trans (by rw[show(((i:Nat):Int)+1:Int)=((i+1:Nat):Int)from by omega]))) λA=>?_;refine sda A λA=>?_;refine qa ?_;have hc9:=zve qh t1.tr (dp) m (by omega);refine hK17 _ _ _ (by omega) ⟨i+1,qlb qh (dp) m t1.tr,rfl,⟨by omega,by rw[hin9,zij hi1 (by omega) hD],by omega,by omega⟩,A.keep _ (by repeat' constructor),M⟩
       ·have hb28':=f6 hb28;refine sdc A qe hb28 λA=>?_;refine sdk (v:=bV false) A λA=>?_;refine qcf hK26 A ?_;refine wp_skip (hK25 _ _ ?_);obtain⟨t1,b1,o1,hi1,hm1,hr1,hl1,hH1⟩:=kid hrd (i:=i) (by omega);have hD:(if decide (d.k=8)=true∧i=1 then dp else dp+1)=dp+1:=f7 (fun e=>by omega);refine wrl (sdf A 10 jz λA=>?_);refine sdl A M ke 0 λA=>?_;refine sdm A λA=>?_;refine sdo (v:=pA b1 (o1+i*11)) A (qk (k:=i) f9 (by kernel_rfl) rfl rfl rfl hl1 (by omega)) λA=>?_;refine sdo A (zp M hH1 zv rfl rfl) λA=>?_;iterate 2 refine sdm A λA=>?_
        refine gcl A M ec (ih t1 hm1 (Dt.keep M.bel _ hr1) (by have:=qoh (d:=d) hm1; omega) (by omega) (by omega) (by omega) (by omega)) fun w32 hb31 M a A=>?_;refine sda A λA=>?_;refine qa (hK23 _ _ (wrl (sdm A λA=>?_)));refine sdo (v:=iV (((i+1:Nat):Int))) A (qb rfl rfl (fun w=>(zq (jk (by omega) (by omega)) w).trans (by rw[show(((i:Nat):Int)+1:Int)=((i+1:Nat):Int)from by omega]))) λA=>?_;refine sda A λA=>?_;refine qa ?_;have hc9:=zve qh t1.tr (dp+1) m (by omega);refine hK17 _ _ _ (by omega) ⟨i+1,qlb qh (dp+1) m t1.tr,rfl,⟨by omega,by rw[hin9,zij hi1 (by omega) hD],by omega,by omega⟩,A.keep _ (by repeat' constructor),M⟩
      ·have hb27':=f6 hb27;refine sdc A qe hb27 λA=>?_;refine sdm A λA=>?_;iterate 2 refine sks A λA=>?_
       refine sdk (v:=bV false) A λA=>?_;refine qcf hK26 A ?_;refine wp_skip (hK25 _ _ ?_);obtain⟨t1,b1,o1,hi1,hm1,hr1,hl1,hH1⟩:=kid hrd (i:=i) (by omega);have hD:(if decide (d.k=8)=true∧i=1 then dp else dp+1)=dp+1:=f7 (fun e=>hb27' (f5 e.1));refine wrl (sdf A 10 jz λA=>?_);refine sdl A M ke 0 λA=>?_;refine sdm A λA=>?_;refine sdo (v:=pA b1 (o1+i*11)) A (qk (k:=i) f9 (by kernel_rfl) rfl rfl rfl hl1 (by omega)) λA=>?_;refine sdo A (zp M hH1 zv rfl rfl) λA=>?_;iterate 2 refine sdm A λA=>?_
       refine gcl A M ec (ih t1 hm1 (Dt.keep M.bel _ hr1) (by have:=qoh (d:=d) hm1; omega) (by omega) (by omega) (by omega) (by omega)) fun w34 hb33 M a A=>?_;refine sda A λA=>?_;refine qa (hK23 _ _ (wrl (sdm A λA=>?_)));refine sdo (v:=iV (((i+1:Nat):Int))) A (qb rfl rfl (fun w=>(zq (jk (by omega) (by omega)) w).trans (by rw[show(((i:Nat):Int)+1:Int)=((i+1:Nat):Int)from by omega]))) λA=>?_;refine sda A λA=>?_;refine qa ?_;have hc9:=zve qh t1.tr (dp+1) m (by omega);refine hK17 _ _ _ (by omega) ⟨i+1,qlb qh (dp+1) m t1.tr,rfl,⟨by omega,by rw[hin9,zij hi1 (by omega) hD],by omega,by omega⟩,A.keep _ (by repeat' constructor),M⟩
     ·have hb22':=fy hb22;refine sdc A zt hb22 λA=>?_;refine sdk (v:=bV false) A λA=>?_;refine qcf hK20 A ?_;refine wp_exit (hK14 _ _ (wsr fun K35 hK35=>sdm A λA=>?_));refine sda A λA=>?_;refine qr1 hK35 hret A ?_;rw[jcd (by omega) (by omega) (by rw[uk]; exact hb10),hin9,qwh (by omega)];exact⟨rfl,M.bel⟩
    ·have hb21':=fy hb21;refine sdc A qy hb21 λA=>?_;refine sdm A λA=>?_;iterate 2 refine sks A λA=>?_
     refine sdk (v:=bV false) A λA=>?_;refine qcf hK20 A ?_;refine wp_exit (hK14 _ _ (wsr fun K36 hK36=>sdm A λA=>?_));refine sda A λA=>?_;refine qr1 hK36 hret A ?_;rw[jcd (by omega) (by omega) (by rw[uk]; exact hb10),hin9,qbj (by omega),qof];exact⟨rfl,M.bel⟩
   ·refine gcl A M ec (zag (hok.1.below M.bel) (gz zed hbk) hlen hb10) fun w38 hb37 M a A=>?_;refine sdu A λA=>?_;refine sdk (v:=bV true) A λA=>?_;refine qct hK5 A ?_;refine wsr fun K39 hK39=>sda A λA=>?_;refine qr1 hK39 hret A ?_;rw[zii (.inr (.inr (by rw[uk]; exact hb10)))];exact⟨rfl,M.bel⟩
theorem jib{w:World}{d:Nd}{ts:List Dt}(hrd:(Dt.mk d ts).rd w)(hbk:(Dt.mk d ts).tr.bulk≤4000000):Calls Tryz.prog 31 #[.agg (d.cells ts.length).toArray] w (RB w (bV (qs qh (Dt.mk d ts).tr))):=by
 have M:=Mg.start w;refine wof Tryz.func31 Tryz.ntmps31 fun Q hret hnorm hP a A=>?_;refine wsr fun _ aa=>zj (vs:=[iV d.k,iV d.n,bV d.y.q.b1,.slice d.y.o1 d.y.q.t1.length d.y.c1,.slice d.y.o2 d.y.q.q1.length d.y.c2,bV d.y.q.b2,.slice d.y.o3 d.y.q.t2.length d.y.c3,.slice d.y.o4 d.y.q.q2.length d.y.c4,.string d.s,.slice d.ro d.rl.length d.rc,.slice d.lo ts.length d.lc]) (t:=30) A M rfl rfl rfl pg (qx rfl rfl) (by decide) ?_;intro g2 _ M a A;refine sda A λA=>?_;refine qa (aa _ _ (wsr fun K4 ab=>sdo A (qz M zv rfl 0 rfl (cs:=[iV d.k,iV d.n,bV d.y.q.b1,.slice d.y.o1 d.y.q.t1.length d.y.c1,.slice d.y.o2 d.y.q.q1.length d.y.c2,bV d.y.q.b2,.slice d.y.o3 d.y.q.t2.length d.y.c3,.slice d.y.o4 d.y.q.q2.length d.y.c4,.string d.s,.slice d.ro d.rl.length d.rc,.slice d.lo ts.length d.lc]) rfl rfl) λA=>?_));refine gcl A M ec (jia (Dt.mk d ts) (Dt.keep M.bel _ hrd) hbk (by omega) (by omega) (by omega) (by omega)) fun _ _ M a A=>?_;refine sdo (v:=bV (decide (0≤qlb qh 1 20000 (Dt.mk d ts).tr))) A (qb rfl rfl zt) λA=>?_;refine sda A λA=>?_;refine qr1 ab hret A ?_;exact⟨by rw[←znj],M.bel⟩
theorem rsound_any{w:World}{t:Dt}(hrd:t.rd w)(hbk:t.tr.bulk≤4000000):Calls Tryz.prog 31 #[.agg t.cells.toArray] w (RB w (bV (qs qh t.tr))):=by
 obtain⟨d,ts⟩:=t;exact jib hrd hbk
theorem zah{w:World}{t u:Dt}(ht:t.rd w)(hu:u.rd w){b:Bool}(h:SQ2 t u=b):Calls Tryz.prog 51 #[t.d.y.val,u.d.y.val] w (RB w (bV b)):=zyc (Dt.okT ht).1.num (Dt.okT ht).1.len (Dt.okT hu).1.num (Dt.okT hu).1.len h
def RSames(n:Nat):Prop:=∀{w:World} {t u:Dt},t.tr.bulk<n→t.rd w→u.rd w→Calls Tryz.prog 17 #[.agg (t.d.cells t.ts.length).toArray,.agg (u.d.cells u.ts.length).toArray] w (RB w (bV (qfe t.tr u.tr)))
theorem zri{n:Nat}(ih:RSames n):RSames (n+1):=by
 intro w t u hn ht hu;have hlt:=(Dt.okT ht).2;have hrt:t.d.rl.length≤9223372036854775807:=gz (Dt.okT ht).1.rcap (Dt.okT ht).1.rmax;have M:=Mg.start w;refine wof Tryz.func17 Tryz.ntmps17 fun Q hret hnorm hP a A=>?_;refine wsr fun _ ck=>zj (vs:=(t.d.cells t.ts.length)) (t:=30) A M rfl rfl rfl pg (qx rfl rfl) (by decide) ?_;intro g2 _ M a A;refine zj (vs:=(u.d.cells u.ts.length)) (t:=30) A M rfl rfl rfl pg (qx rfl rfl) (by decide) ?_;intro g4 _ M a A;refine sda A λA=>?_;refine qa (ck _ _ (wsk fun _ cl=>wsr fun _ am=>sdf A 0 xk λA=>?_));refine sdl A M o93 1 λA=>?_;refine sdf A 0 xk λA=>?_;refine sdl A M o93 0 λA=>?_;rcases tf ((t.d.k != u.d.k))with ak|ak
 ·have ak':=iy.1 ak;refine sdc A zh ak λA=>?_;refine sdm A λA=>?_;iterate 5 refine sks A λA=>?_
  refine sdk (v:=bV true) A λA=>?_;refine sdm A λA=>?_;iterate 5 refine sks A λA=>?_
  refine sdk (v:=bV true) A λA=>?_;refine sdm A λA=>?_;iterate 7 refine sks A λA=>?_
  refine sdk (v:=bV true) A λA=>?_;refine sdm A λA=>?_;iterate 7 refine sks A λA=>?_
  refine sdk (v:=bV true) A λA=>?_;refine sdm A λA=>?_;iterate 6 refine sks A λA=>?_
  refine sdk (v:=bV true) A λA=>?_;refine qct am A ?_;refine wsr fun _ cm=>sda A λA=>?_;refine qr1 cm hret A ?_;exact⟨by rw[qhe (.inl ak')],M.bel⟩
 ·have ak':=ie.1 ak;refine sdc A zh ak λA=>?_;refine sdm A λA=>?_;refine sdf A 1 vn λA=>?_;refine sdl A M o93 1 λA=>?_;refine sdf A 1 vn λA=>?_;refine sdl A M o93 0 λA=>?_;rcases tf ((t.d.n != u.d.n))with aa|aa
  ·have aa':=iy.1 aa;refine sdc A zh aa λA=>?_;refine sdk (v:=bV true) A λA=>?_;refine sdm A λA=>?_;iterate 5 refine sks A λA=>?_
   refine sdk (v:=bV true) A λA=>?_;refine sdm A λA=>?_;iterate 7 refine sks A λA=>?_
   refine sdk (v:=bV true) A λA=>?_;refine sdm A λA=>?_;iterate 7 refine sks A λA=>?_
   refine sdk (v:=bV true) A λA=>?_;refine sdm A λA=>?_;iterate 6 refine sks A λA=>?_
   refine sdk (v:=bV true) A λA=>?_;refine qct am A ?_;refine wsr fun _ az=>sda A λA=>?_;refine qr1 az hret A ?_;exact⟨by rw[qhe (.inr (.inl aa'))],M.bel⟩
  ·have aa':=ie.1 aa;refine sdc A zh aa λA=>?_;refine sdk (v:=bV false) A λA=>?_;refine sdm A λA=>?_;refine sdf A 8 vg λA=>?_;refine sdl A M o99 1 λA=>?_;refine sdf A 8 vg λA=>?_;refine sdl A M o99 0 λA=>?_;rcases tf (decide (t.d.s=u.d.s))with ab|ab
   ·have ab':=f5 ab;refine sdo (v:=bV false) A (qb rfl rfl (fun w=>(kx gi w).trans (by rw[ab]<;>rfl))) λA=>?_;refine sdk (v:=bV false) A λA=>?_;refine sdm A λA=>?_;refine sdf A 9 qai λA=>?_;refine sdl A M quf 1 λA=>?_;refine sdo A (qr ib rfl) λA=>?_;refine sdf A 9 qai λA=>?_;refine sdl A M quf 0 λA=>?_;refine sdo A (qr ib rfl) λA=>?_;rcases tf ((((t.d.rl.length:Nat):Int) != ((u.d.rl.length:Nat):Int)))with ae|ae
    ·have ae':=iy.1 ae;refine sdc A zh ae λA=>?_;refine sdk (v:=bV true) A λA=>?_;refine sdm A λA=>?_;iterate 7 refine sks A λA=>?_
     refine sdk (v:=bV true) A λA=>?_;refine sdm A λA=>?_;iterate 6 refine sks A λA=>?_
     refine sdk (v:=bV true) A λA=>?_;refine qct am A ?_;refine wsr fun _ bd=>sda A λA=>?_;refine qr1 bd hret A ?_;exact⟨by rw[qhe (.inr (.inr (.inr (.inl (fun e=>ae' (by rw[e]))))))],M.bel⟩
    ·have ae':=ie.1 ae;refine sdc A zh ae λA=>?_;refine sdk (v:=bV false) A λA=>?_;refine sdm A λA=>?_;refine sdf A 10 jz λA=>?_;refine sdl A M ke 1 λA=>?_;refine sdo A (qr f9 rfl) λA=>?_;refine sdf A 10 jz λA=>?_;refine sdl A M ke 0 λA=>?_;refine sdo A (qr f9 rfl) λA=>?_;rcases tf ((((t.ts.length:Nat):Int) != ((u.ts.length:Nat):Int)))with af|af
     ·have af':=iy.1 af;refine sdc A zh af λA=>?_;refine sdk (v:=bV true) A λA=>?_;refine sdm A λA=>?_;iterate 6 refine sks A λA=>?_
      refine sdk (v:=bV true) A λA=>?_;refine qct am A ?_;refine wsr fun _ bf=>sda A λA=>?_;refine qr1 bf hret A ?_;exact⟨by rw[qhe (.inr (.inr (.inr (.inr (.inl (fun e=>af' (by rw[e])))))))],M.bel⟩
     ·have af':=ie.1 af;refine sdc A zh af λA=>?_;refine sdk (v:=bV false) A λA=>?_;refine sdm A λA=>?_;refine sdf A 2 uq λA=>?_;refine sdo A (qz M jnc rfl 1 rfl (cs:=[bV t.d.y.q.b1,.slice t.d.y.o1 t.d.y.q.t1.length t.d.y.c1,.slice t.d.y.o2 t.d.y.q.q1.length t.d.y.c2,bV t.d.y.q.b2,.slice t.d.y.o3 t.d.y.q.t2.length t.d.y.c3,.slice t.d.y.o4 t.d.y.q.q2.length t.d.y.c4]) rfl rfl) λA=>?_;refine sdf A 2 uq λA=>?_;refine sdo A (qz M jnc rfl 0 rfl (cs:=[bV u.d.y.q.b1,.slice u.d.y.o1 u.d.y.q.t1.length u.d.y.c1,.slice u.d.y.o2 u.d.y.q.q1.length u.d.y.c2,bV u.d.y.q.b2,.slice u.d.y.o3 u.d.y.q.t2.length u.d.y.c3,.slice u.d.y.o4 u.d.y.q.q2.length u.d.y.c4]) rfl rfl) λA=>?_;rcases tf (SQ2 t u)with ai|ai
      ·refine gcl A M ec (zah (Dt.keep M.bel _ ht) (Dt.keep M.bel _ hu) ai) fun _ _ M a A=>?_;refine sdu A λA=>?_;refine sdk (v:=bV false) A λA=>?_;refine qcf am A ?_;refine wp_skip (cl _ _ (wsk fun _ bg=>wsr fun _ bh=>sda A λA=>?_))
       refine qa (bh _ _ (wp_block (zg (fun m_ a w1=>∃(i:Nat),m_=1+(t.d.rl.length-i)∧(i≤t.d.rl.length∧∀j,j<i→t.d.rl.getD j 0=u.d.rl.getD j 0)∧Sl a 89 [(0,.agg (t.d.cells t.ts.length).toArray),(1,.agg (u.d.cells u.ts.length).toArray),(2,pA g2 0),(3,pA g4 0),(5,iV (((i:Nat):Int))),(7,pA g2 0),(8,iV t.d.k),(9,pA g4 0),(10,iV u.d.k),(11,bV false),(12,bV false),(13,pA g2 1),(14,iV t.d.n),(15,pA g4 1),(16,iV u.d.n),(17,bV false),(18,bV false),(19,bV false),(20,pA g2 8),(21,.string t.d.s),(22,pA g4 8),(23,.string u.d.s),(24,bV false),(25,bV false),(26,bV false),(27,pA g2 9),(28,.slice t.d.ro t.d.rl.length t.d.rc),(29,iV (((t.d.rl.length:Nat):Int))),(30,pA g4 9),(31,.slice u.d.ro u.d.rl.length u.d.rc),(32,iV (((u.d.rl.length:Nat):Int))),(33,bV false),(34,bV false),(35,bV false),(36,pA g2 10),(37,.slice t.d.lo t.ts.length t.d.lc),(38,iV (((t.ts.length:Nat):Int))),(39,pA g4 10),(40,.slice u.d.lo u.ts.length u.d.lc),(41,iV (((u.ts.length:Nat):Int))),(42,bV false),(43,bV false),(44,bV false),(45,pA g2 2),(46,.agg #[bV t.d.y.q.b1,.slice t.d.y.o1 t.d.y.q.t1.length t.d.y.c1,.slice t.d.y.o2 t.d.y.q.q1.length t.d.y.c2,bV t.d.y.q.b2,.slice t.d.y.o3 t.d.y.q.t2.length t.d.y.c3,.slice t.d.y.o4 t.d.y.q.q2.length t.d.y.c4]),(47,pA g4 2),(48,.agg #[bV u.d.y.q.b1,.slice u.d.y.o1 u.d.y.q.t1.length u.d.y.c1,.slice u.d.y.o2 u.d.y.q.q1.length u.d.y.c2,bV u.d.y.q.b2,.slice u.d.y.o3 u.d.y.q.t2.length u.d.y.c3,.slice u.d.y.o4 u.d.y.q.q2.length u.d.y.c4]),(49,bV true),(50,bV false),(51,bV false)]∧Mg w w1 (.obj g4 (.cells (u.d.cells u.ts.length).toArray 30)::.obj g2 (.cells (t.d.cells t.ts.length).toArray 30)::[])) _ ⟨0,rfl,⟨ii _,fun j hj=>absurd hj (j4 _)⟩,A.keep _ (by repeat' constructor),M⟩ ?_)));clear M A;rintro m_ a _ ⟨i,rfl,ap,A,M⟩ _ bi;obtain⟨_,au⟩:=ap
       refine wsk fun _ bj=>wsr fun _ av=>sdm A λA=>?_;refine sdf A 9 qai λA=>?_;refine sdl A M quf 1 λA=>?_;refine sdo A (qr ib rfl) λA=>?_;rcases tf (decide (((i:Nat):Int)<((t.d.rl.length:Nat):Int)))with ag|ag
       ·have ag':=f5 ag;refine sdc A qy ag λA=>?_;refine qct av A ?_;refine wp_skip (bj _ _ (wsk fun _ bn=>wp_block (wsk fun _ aw=>xg (S:=fun w1=>Mg w w1 (.obj g4 (.cells (u.d.cells u.ts.length).toArray 30)::.obj g2 (.cells (t.d.cells t.ts.length).toArray 30)::[])) (by kernel_rfl) ?_)));replace M:=M.drew;refine atk (v:=pA g2 9) A 0 rfl hP (M.sub (cC (cC ns))) (λ_ M=>qp qai rfl rfl) λA=>?_;refine atk A 1 rfl hP (M.sub (cC (cC ns))) (λ_ M=>xy M quf rfl 1 rfl rfl) λA=>?_;refine atk A 2 rfl hP (M.sub (cC (cC ns))) (λ_ M=>zr rfl) λA=>?_;obtain⟨bt,ot,ht1,ht2,ht3⟩:=qhf (i:=i) (Dt.okT ht).1.raw (by omega);refine atk (v:=pA bt (ot+i)) A 3 rfl hP (M.sub (cC (cC ns))) (λ_ M=>ja (k:=i) ib (by kernel_rfl) rfl rfl rfl ht1 (by omega)) λA=>?_;refine atk A 4 rfl hP (M.sub (cC (cC ns))) (λ_ M=>qgh M ht2 (ht3 i (by omega)) o95 rfl) λA=>?_;refine atk (v:=pA g4 9) A 5 rfl hP (M.sub (cC (cC ns))) (λ_ M=>qp qai rfl rfl) λA=>?_;refine atk A 6 rfl hP (M.sub (cC (cC ns))) (λ_ M=>xy M quf rfl 0 rfl rfl) λA=>?_;refine atk A 7 rfl hP (M.sub (cC (cC ns))) (λ_ M=>zr rfl) λA=>?_;obtain⟨bu,ou,hu1,hu2,hu3⟩:=qhf (i:=i) (Dt.okT hu).1.raw (by omega);refine atk (v:=pA bu (ou+i)) A 8 rfl hP (M.sub (cC (cC ns))) (λ_ M=>ja (k:=i) ib (by kernel_rfl) rfl rfl rfl hu1 (by omega)) λA=>?_;refine atk A 9 rfl hP (M.sub (cC (cC ns))) (λ_ M=>qgh M hu2 (hu3 i (by omega)) o95 rfl) λA=>?_;rcases tf (((((t.d.rl.getD i 0).toNat:Nat):Int) != (((u.d.rl.getD i 0).toNat:Nat):Int)))with ac|ac
        ·have ac':=iy.1 ac;refine atk (v:=bV true) A 10 rfl hP (M.sub (cC (cC ns))) (λ_ M=>qb rfl rfl (fun w=>(zh w).trans (by rw[ac]))) λA=>?_;refine jl (by kernel_rfl) ?_;refine aw _ _ (ct A ?_);refine wsr fun _ bp=>sda A λA=>?_;refine qr1 bp hret A ?_;exact⟨by rw[qhe (.inr (.inr (.inr (.inl (xkg ac')))))],M.bel⟩
        ·have ac':=ie.1 ac;refine atk (v:=bV false) A 10 rfl hP (M.sub (cC (cC ns))) (λ_ M=>qb rfl rfl (fun w=>(zh w).trans (by rw[ac]))) λA=>?_;refine jl (by kernel_rfl) ?_;refine aw _ _ (cf A ?_);refine wp_skip (bn _ _ (wrl (sdm A λA=>?_)));refine sdo (v:=iV (((i+1:Nat):Int))) A (qb rfl rfl (fun w=>(zq (jk (by omega) (by omega)) w).trans (by rw[show(((i:Nat):Int)+1:Int)=((i+1:Nat):Int)from by omega]))) λA=>?_;refine sda A λA=>?_;refine qa ?_;refine bi _ _ _ (by omega) ⟨i+1,rfl,⟨by omega,fun j hj=>if h9:j<i then au j h9 else by have h8:j=i:=(by omega); subst h8; exact xkh ac'⟩,A.keep _ (by repeat' constructor),M⟩
       ·have ag':=fy ag;refine sdc A qy ag λA=>?_;refine qcf av A ?_;refine wp_exit (bg _ _ (wsk fun _ bq=>wsr fun _ br=>sda A λA=>?_));refine qa (br _ _ (wp_block ?_));have hrl:t.d.rl=u.d.rl:=jhh (by omega) (fun j hj=>au j (by omega));have hsy:=jqd ak' aa' ab' hrl (by omega) ai
        refine zg (fun m_ a w1=>∃(j:Nat),m_=1+(t.ts.length-j)∧(j≤t.ts.length∧qbb (t.ts.map Dt.tr) (u.ts.map Dt.tr)=qbb ((t.ts.map Dt.tr).drop j) ((u.ts.map Dt.tr).drop j))∧Sl a 89 [(0,.agg (t.d.cells t.ts.length).toArray),(1,.agg (u.d.cells u.ts.length).toArray),(2,pA g2 0),(3,pA g4 0),(5,iV (((i:Nat):Int))),(6,iV (((j:Nat):Int))),(7,pA g2 0),(8,iV t.d.k),(9,pA g4 0),(10,iV u.d.k),(11,bV false),(12,bV false),(13,pA g2 1),(14,iV t.d.n),(15,pA g4 1),(16,iV u.d.n),(17,bV false),(18,bV false),(19,bV false),(20,pA g2 8),(21,.string t.d.s),(22,pA g4 8),(23,.string u.d.s),(24,bV false),(25,bV false),(26,bV false),(27,pA g2 9),(28,.slice t.d.ro t.d.rl.length t.d.rc),(29,iV (((t.d.rl.length:Nat):Int))),(30,pA g4 9),(31,.slice u.d.ro u.d.rl.length u.d.rc),(32,iV (((u.d.rl.length:Nat):Int))),(33,bV false),(34,bV false),(35,bV false),(36,pA g2 10),(37,.slice t.d.lo t.ts.length t.d.lc),(38,iV (((t.ts.length:Nat):Int))),(39,pA g4 10),(40,.slice u.d.lo u.ts.length u.d.lc),(41,iV (((u.ts.length:Nat):Int))),(42,bV false),(43,bV false),(44,bV false),(45,pA g2 2),(46,.agg #[bV t.d.y.q.b1,.slice t.d.y.o1 t.d.y.q.t1.length t.d.y.c1,.slice t.d.y.o2 t.d.y.q.q1.length t.d.y.c2,bV t.d.y.q.b2,.slice t.d.y.o3 t.d.y.q.t2.length t.d.y.c3,.slice t.d.y.o4 t.d.y.q.q2.length t.d.y.c4]),(47,pA g4 2),(48,.agg #[bV u.d.y.q.b1,.slice u.d.y.o1 u.d.y.q.t1.length u.d.y.c1,.slice u.d.y.o2 u.d.y.q.q1.length u.d.y.c2,bV u.d.y.q.b2,.slice u.d.y.o3 u.d.y.q.t2.length u.d.y.c3,.slice u.d.y.o4 u.d.y.q.q2.length u.d.y.c4]),(49,bV true),(50,bV false),(51,bV false),(52,iV (((i:Nat):Int))),(53,pA g2 9),(54,.slice t.d.ro t.d.rl.length t.d.rc),(55,iV (((t.d.rl.length:Nat):Int))),(56,bV false)]∧Mg w w1 (.obj g4 (.cells (u.d.cells u.ts.length).toArray 30)::.obj g2 (.cells (t.d.cells t.ts.length).toArray 30)::[])) _ ⟨0,rfl,⟨ii _,rfl⟩,A.keep _ (by repeat' constructor),M⟩ ?_
        clear M A;rintro m_ a _ ⟨j,rfl,aq,A,M⟩ _ bw;obtain⟨_,ar⟩:=aq;refine wsk fun _ bz=>wsr fun _ ax=>sdm A λA=>?_;refine sdf A 10 jz λA=>?_;refine sdl A M ke 1 λA=>?_;refine sdo A (qr f9 rfl) λA=>?_;rcases tf (decide (((j:Nat):Int)<((t.ts.length:Nat):Int)))with ah|ah
        ·have ah':=f5 ah;refine sdc A qy ah λA=>?_;refine qct ax A ?_;refine wp_skip (bz _ _ (wsk fun _ cc=>wp_block (wsk fun _ ay=>?_)));obtain⟨t1,bt1,ot1,it1,mt1,rt1_,lt1,Ht1⟩:=qeh ht (i:=j) (by omega);obtain⟨u1,bu1,ou1,iu1,mu1,ru1_,lu1,Hu1⟩:=qeh hu (i:=j) (by omega);refine xg (S:=fun w1=>Mg w w1 (.obj g4 (.cells (u.d.cells u.ts.length).toArray 30)::.obj g2 (.cells (t.d.cells t.ts.length).toArray 30)::[])) (by kernel_rfl) ?_;replace M:=M.drew;refine atk (v:=pA g2 10) A 0 rfl hP (M.sub (cC (cC ns))) (λ_ M=>qp jz rfl rfl) λA=>?_;refine atk A 1 rfl hP (M.sub (cC (cC ns))) (λ_ M=>xy M ke rfl 1 rfl rfl) λA=>?_;refine atk A 2 rfl hP (M.sub (cC (cC ns))) (λ_ M=>zr rfl) λA=>?_;refine atk (v:=pA bt1 (ot1+j*11)) A 3 rfl hP (M.sub (cC (cC ns))) (λ_ M=>qk (k:=j) f9 (by kernel_rfl) rfl rfl rfl lt1 (by omega)) λA=>?_;refine atk A 4 rfl hP (M.sub (cC (cC ns))) (λ_ M=>zp M Ht1 zv rfl rfl) λA=>?_;refine atk (v:=pA g4 10) A 5 rfl hP (M.sub (cC (cC ns))) (λ_ M=>qp jz rfl rfl) λA=>?_;refine atk A 6 rfl hP (M.sub (cC (cC ns))) (λ_ M=>xy M ke rfl 0 rfl rfl) λA=>?_;refine atk A 7 rfl hP (M.sub (cC (cC ns))) (λ_ M=>zr rfl) λA=>?_;refine atk (v:=pA bu1 (ou1+j*11)) A 8 rfl hP (M.sub (cC (cC ns))) (λ_ M=>qk (k:=j) f9 (by kernel_rfl) rfl rfl rfl lu1 (by omega)) λA=>?_;refine atk A 9 rfl hP (M.sub (cC (cC ns))) (λ_ M=>zp M Hu1 zv rfl rfl) λA=>?_;rcases tf (qfe t1.tr u1.tr)with aj|aj
         ·refine zn (by kernel_rfl) (jc A 10 rfl rfl rfl rfl ec ((aj▸ih (by have:=qhi mt1; omega) (Dt.keep M.bel _ rt1_) (Dt.keep M.bel _ ru1_))) ?_);rintro _ _ ⟨rfl,cd⟩;replace M:=M.call cd;refine⟨_,rfl,(M.sub (cC (cC ns))),?_⟩;intro a A;refine atk (v:=bV false) A 11 rfl hP (M.sub (cC (cC ns))) (λ_ M=>ya rfl qaf) λA=>?_;refine jl (by kernel_rfl) ?_;refine ay _ _ (cf A ?_);refine wp_skip (cc _ _ (wrl (sdm A λA=>?_)));refine sdo (v:=iV (((j+1:Nat):Int))) A (qb rfl rfl (fun w=>(zq (jk (by omega) (by omega)) w).trans (by rw[show(((j:Nat):Int)+1:Int)=((j+1:Nat):Int)from by omega]))) λA=>?_;refine sda A λA=>?_;refine qa ?_;refine bw _ _ _ (by omega) ⟨j+1,rfl,⟨by omega,by rw[ar,zrf it1 iu1,aj,Bool.true_and]⟩,A.keep _ (by repeat' constructor),M⟩
         ·refine zn (by kernel_rfl) (jc A 10 rfl rfl rfl rfl ec ((aj▸ih (by have:=qhi mt1; omega) (Dt.keep M.bel _ rt1_) (Dt.keep M.bel _ ru1_))) ?_);rintro _ _ ⟨rfl,ce⟩;replace M:=M.call ce;refine⟨_,rfl,(M.sub (cC (cC ns))),?_⟩;intro a A;refine atk (v:=bV true) A 11 rfl hP (M.sub (cC (cC ns))) (λ_ M=>ya rfl qaf) λA=>?_;refine jl (by kernel_rfl) ?_;refine ay _ _ (ct A ?_);refine wsr fun _ cg=>sda A λA=>?_;refine qr1 cg hret A ?_;exact⟨by rw[hsy,ar,zrf it1 iu1,aj]; rfl,M.bel⟩
        ·have ah':=fy ah;refine sdc A qy ah λA=>?_;refine qcf ax A ?_;refine wp_exit (bq _ _ (wsr fun _ ch=>sda A λA=>?_));refine qr1 ch hret A ?_;exact⟨by rw[hsy,ar,jhg (by omega)],M.bel⟩
      ·refine gcl A M ec (zah (Dt.keep M.bel _ ht) (Dt.keep M.bel _ hu) ai) fun _ _ M a A=>?_;refine sdu A λA=>?_;refine sdk (v:=bV true) A λA=>?_;refine qct am A ?_;refine wsr fun _ ci=>sda A λA=>?_;refine qr1 ci hret A ?_;exact⟨by rw[qhe (.inr (.inr (.inr (.inr (.inr ai)))))],M.bel⟩
   ·have ab':=fy ab;refine sdo (v:=bV true) A (qb rfl rfl (fun w=>(kx gi w).trans (by rw[ab]<;>rfl))) λA=>?_;refine sdk (v:=bV true) A λA=>?_;refine sdm A λA=>?_;iterate 7 refine sks A λA=>?_
    refine sdk (v:=bV true) A λA=>?_;refine sdm A λA=>?_;iterate 7 refine sks A λA=>?_
    refine sdk (v:=bV true) A λA=>?_;refine sdm A λA=>?_;iterate 6 refine sks A λA=>?_
    refine sdk (v:=bV true) A λA=>?_;refine qct am A ?_;refine wsr fun _ cj=>sda A λA=>?_;refine qr1 cj hret A ?_;exact⟨by rw[qhe (.inr (.inr (.inl ab')))],M.bel⟩
theorem qnc: ∀n,RSames n
 | 0 => fun h => absurd h (j4 _)
 | n + 1 => zri (qnc n)
theorem zrj{w:World}{sa sb:Option Addr}{ca cb:Nat}{us vs:List Dt}(hRa:Rt w sa us)(hDa:∀t∈us,t.rd w)(hRb:Rt w sb vs)(hDb:∀t∈vs,t.rd w)(he:us.map Dt.tr=vs.map Dt.tr)(hl:us.length≤1000000000):Calls Tryz.prog 23 #[.slice sa us.length ca,.slice sb vs.length cb] w (RB w (bV true)):=by
 have hel:us.length=vs.length:=by have:=j9 List.length he; simpa using this
 have M:=Mg.start w;refine wof Tryz.func23 Tryz.ntmps23 fun Q hret hnorm hP a A=>?_;refine wsr fun _ ai=>sda A λA=>?_;refine qwk ai fun _ aj=>wsr fun _ ak=>sdm A λA=>?_;refine sdo A (qr f9 rfl) λA=>?_;refine sdm A λA=>?_;refine sdo A (qr f9 rfl) λA=>?_;refine sdo (v:=bV false) A (qb rfl rfl (fun w=>(zh w).trans (by rw[show((((us.length:Nat):Int) != ((vs.length:Nat):Int)))=false from(ie.2 (by omega))]))) λA=>?_;refine qcf ak A ?_;refine wp_skip (aj _ _ (wsk fun K4 am=>wsr fun _ ap=>sda A λA=>?_));refine qa (ap _ _ (wp_block (zg (fun m_ a w1=>∃(i:Nat),m_=1+(us.length-i)∧(i≤us.length)∧Sl a 27 [(0,.slice sa us.length ca),(1,.slice sb vs.length cb),(5,iV (((i:Nat):Int))),(6,.slice sa us.length ca),(7,iV (((us.length:Nat):Int))),(8,.slice sb vs.length cb),(9,iV (((vs.length:Nat):Int))),(10,bV false)]∧Mg w w1 ([])) _ ⟨0,rfl,ii _,A.keep _ (by repeat' constructor),M⟩ ?_)));clear M A;rintro m_ a _ ⟨i,rfl,ab,A,M⟩ _ aq;have _:=ab;refine wsk fun _ ar=>wsr fun _ ac=>?_;iterate 2 refine sdm A λA=>?_
 refine sdo A (qr f9 rfl) λA=>?_;rcases tf (decide (((i:Nat):Int)<((us.length:Nat):Int)))with aa|aa
 ·have aa':=f5 aa;refine sdc A qy aa λA=>?_;refine qct ac A ?_;refine wp_skip (ar _ _ (wsk fun _ ae=>wp_block (wsk fun _ af=>?_)));obtain⟨t1,bt1,ot1,it1,mt1,rt1_,lt1,Ht1⟩:=que hRa hDa (i:=i) (by omega);obtain⟨u1,bu1,ou1,iu1,mu1,ru1_,lu1,Hu1⟩:=que hRb hDb (i:=i) (by omega);refine xg (S:=fun w1=>Mg w w1 ([])) (by kernel_rfl) ?_;replace M:=M.drew;refine amv A 0 rfl hP (M.sub ns) λA=>?_;refine amv A 1 rfl hP (M.sub ns) λA=>?_;refine atk (v:=pA bt1 (ot1+i*11)) A 2 rfl hP (M.sub ns) (λ_ M=>qk (k:=i) f9 (by kernel_rfl) rfl rfl rfl lt1 (by omega)) λA=>?_;refine atk A 3 rfl hP (M.sub ns) (λ_ M=>zp M Ht1 zv rfl rfl) λA=>?_;refine amv A 4 rfl hP (M.sub ns) λA=>?_;refine amv A 5 rfl hP (M.sub ns) λA=>?_;refine atk (v:=pA bu1 (ou1+i*11)) A 6 rfl hP (M.sub ns) (λ_ M=>qk (k:=i) f9 (by kernel_rfl) rfl rfl rfl lu1 (by omega)) λA=>?_;refine atk A 7 rfl hP (M.sub ns) (λ_ M=>zp M Hu1 zv rfl rfl) λA=>?_;refine zn (by kernel_rfl) (jc A 8 rfl rfl rfl rfl ec ((((jqc t1.tr u1.tr).2 (xka he it1 iu1))▸qnc (t1.tr.bulk+1) (t:=t1) (u:=u1) (Nat.lt_succ_self _) (Dt.keep M.bel _ rt1_) (Dt.keep M.bel _ ru1_))) ?_);rintro _ _ ⟨rfl,ag⟩;replace M:=M.call ag;refine⟨_,rfl,(M.sub ns),?_⟩;intro a A;refine atk (v:=bV false) A 9 rfl hP (M.sub ns) (λ_ M=>ya rfl qaf) λA=>?_;refine jl (by kernel_rfl) ?_;refine af _ _ (cf A ?_);refine wp_skip (ae _ _ (wrl (sdm A λA=>?_)));refine sdo (v:=iV (((i+1:Nat):Int))) A (qb rfl rfl (fun w=>(zq (jk (by omega) (by omega)) w).trans (by rw[show(((i:Nat):Int)+1:Int)=((i+1:Nat):Int)from by omega]))) λA=>?_;refine sda A λA=>?_;refine qa ?_;refine aq _ _ _ (by omega) ⟨i+1,rfl,by omega,A.keep _ (by repeat' constructor),M⟩
 ·have aa':=fy aa;refine sdc A qy aa λA=>?_;refine qcf ac A ?_;refine wp_exit (am _ _ (wsr fun _ ah=>sda A λA=>?_));refine qr1 ah hret A ?_;exact⟨rfl,M.bel⟩
theorem jqj: un (-1)=0:=by unfold un; rw[zjh]; rfl
theorem qcd{t:Int}(h:okT 20 t=true):un t=(kat t).own+un (kat t).par:=by unfold un; rw[qyh h,i6,List.sum_cons]
theorem xhj: ∀i,i<20→(kds.getD i xx).own=if i=1∨i=7∨i=8∨i=17 then 1 else if i=12 then 2 else 0:=by decide
theorem qrh{t:Int}(h:okT 20 t=true):(kat t).own=if t=1∨t=7∨t=8∨t=17 then 1 else if t=12 then 2 else 0:=by
 have h1:=qba h;have:=xhj t.toNat (by omega);rw[←qra h]at this;rw[this];by_cases h2:t=1∨t=7∨t=8∨t=17
 ·rw[gj h2,gj (by omega)]
 ·rw[f7 h2,f7 (by omega)];by_cases h3:t=12
  ·rw[gj h3,gj (by omega)]
  ·rw[f7 h3,f7 (by omega)]
theorem xbd{vs:List Dt}{t:Dt}(h:t∈vs)(hs:qs qh t.tr=false):(vs.map Dt.tr).all (qs qh)=false:=by
 apply lj.2;intro k;rw[j3.1 k _ (j5 h)]at hs;cases hs
theorem jra{vs:List Dt}{i:Nat}{t:Dt}(h:((vs.take i).map Dt.tr).all (qs qh)=true)(hi:vs[i]?=some t)(hs:qs qh t.tr=true):((vs.take (i+1)).map Dt.tr).all (qs qh)=true:=by
 obtain⟨hl,rfl⟩:=List.getElem?_eq_some_iff.1 hi;rw[List.take_succ_eq_append_getElem hl,j6,List.all_append,h,List.map_singleton,List.all_cons,hs];rfl
theorem zsa{w:World}{t:Int}(ht:okT 20 t=true):Calls Tryz.prog 74 #[iV t] w (RB w (iV (un t))):=by
 have ht9:=qba ht;have hcr:=jyc ht;have M:=Mg.start w;refine wof Tryz.func74 Tryz.ntmps74 fun Q hret hnorm hP a A=>?_;refine wsr fun _ az=>sda A λA=>?_;refine qwr az fun _ bd=>sda A λA=>?_;refine qa (bd _ _ (wsk fun _ bf=>wp_block (zg (fun m_ a w1=>∃(x:Int) (n:Int),m_=(x+1).toNat∧(-1≤x∧x≤t∧0≤n∧n≤2*(t-x)∧n+un x=un t)∧Sl a 21 [(0,iV x),(2,iV 0),(3,iV n)]∧Mg w w1 ([])) _ ⟨t,0,rfl,⟨by omega,by omega,by omega,by omega,by omega⟩,A.keep _ ⟨rfl,rfl,rfl,trivial⟩,M⟩ ?_)));clear M A;rintro m_ a _ ⟨x,n,rfl,ak,A,M⟩ _ aj;obtain⟨_,ax,hn0,hn1,au⟩:=ak;refine wsk fun _ bg=>wsr fun _ ay=>sdm A λA=>?_;rcases tf (decide (0≤x))with ai|ai
 ·have ai':=f5 ai;refine sdc A zt ai λA=>?_;refine qct ay A ?_;refine wp_skip (bg _ _ (wp_block (wsk fun _ ag=>wsr fun _ av=>sdm A λA=>?_)));refine qa (av _ _ (wp_block (wsk fun _ ah=>wsr fun _ am=>?_)));rcases tf ((x==1))with aa|aa
  ·have aa':=gr aa;refine sdc A qe aa λA=>?_;refine sda A λA=>?_;refine qct am A ?_;refine wp_skip (ah _ _ (ct A ?_));refine wrl (sdm A λA=>?_);refine sdo (v:=iV (n+1)) A (qb rfl rfl (zq (jk (by omega) (by omega)))) λA=>?_;refine sda A λA=>?_;refine qa (ag _ _ (wrl (sdm A λA=>?_)));have hx:okT 20 x=true:=qah (by omega) (by omega);have hpr:=qdi hx;have hst:=qcd hx;have how:(kat x).own=1:=(by rw[qrh hx]; rw[gj (by omega)]);refine gcl A M ec ((qna hx▸km)) fun bh _ M a A=>?_;refine sda A λA=>?_;refine qa ?_;replace M:Mg w bh ([]):=by
    have h9:=M.sub (.refl _);exact h9
   refine aj _ _ _ (by omega) ⟨(kat x).par,n+1,rfl,⟨by omega,by omega,by omega,by omega,by omega⟩,A.keep _ ⟨rfl,rfl,rfl,trivial⟩,M⟩
  ·have aa':=f6 aa;refine sdc A qe aa λA=>?_;refine sda A λA=>?_;refine qcf am A ?_;refine wsr fun _ ap=>?_;rcases tf ((x==7))with ab|ab
   ·have ab':=gr ab;refine sdc A qe ab λA=>?_;refine sda A λA=>?_;refine qct ap A ?_;refine wp_skip (ah _ _ (ct A ?_));refine wrl (sdm A λA=>?_);refine sdo (v:=iV (n+1)) A (qb rfl rfl (zq (jk (by omega) (by omega)))) λA=>?_;refine sda A λA=>?_;refine qa (ag _ _ (wrl (sdm A λA=>?_)));have hx:okT 20 x=true:=qah (by omega) (by omega);have hpr:=qdi hx;have hst:=qcd hx;have how:(kat x).own=1:=(by rw[qrh hx]; rw[gj (by omega)]);refine gcl A M ec ((qna hx▸km)) fun bi _ M a A=>?_;refine sda A λA=>?_;refine qa ?_;replace M:Mg w bi ([]):=by
     have h9:=M.sub (.refl _);exact h9
    refine aj _ _ _ (by omega) ⟨(kat x).par,n+1,rfl,⟨by omega,by omega,by omega,by omega,by omega⟩,A.keep _ ⟨rfl,rfl,rfl,trivial⟩,M⟩
   ·have ab':=f6 ab;refine sdc A qe ab λA=>?_;refine sda A λA=>?_;refine qcf ap A ?_;refine wsr fun _ aq=>?_;rcases tf ((x==8))with ac|ac
    ·have ac':=gr ac;refine sdc A qe ac λA=>?_;refine sda A λA=>?_;refine qct aq A ?_;refine wp_skip (ah _ _ (ct A ?_));refine wrl (sdm A λA=>?_);refine sdo (v:=iV (n+1)) A (qb rfl rfl (zq (jk (by omega) (by omega)))) λA=>?_;refine sda A λA=>?_;refine qa (ag _ _ (wrl (sdm A λA=>?_)));have hx:okT 20 x=true:=qah (by omega) (by omega);have hpr:=qdi hx;have hst:=qcd hx;have how:(kat x).own=1:=(by rw[qrh hx]; rw[gj (by omega)]);refine gcl A M ec ((qna hx▸km)) fun bj _ M a A=>?_;refine sda A λA=>?_;refine qa ?_;replace M:Mg w bj ([]):=by
      have h9:=M.sub (.refl _);exact h9
     refine aj _ _ _ (by omega) ⟨(kat x).par,n+1,rfl,⟨by omega,by omega,by omega,by omega,by omega⟩,A.keep _ ⟨rfl,rfl,rfl,trivial⟩,M⟩
    ·have ac':=f6 ac;refine sdc A qe ac λA=>?_;refine sda A λA=>?_;refine qcf aq A ?_;refine wrl ?_;rcases tf ((x==17))with ae|ae
     ·have ae':=gr ae;refine sdc A qe ae λA=>?_;refine sda A λA=>?_;refine qct ah A ?_;refine wrl (sdm A λA=>?_);refine sdo (v:=iV (n+1)) A (qb rfl rfl (zq (jk (by omega) (by omega)))) λA=>?_;refine sda A λA=>?_;refine qa (ag _ _ (wrl (sdm A λA=>?_)));have hx:okT 20 x=true:=qah (by omega) (by omega);have hpr:=qdi hx;have hst:=qcd hx;have how:(kat x).own=1:=(by rw[qrh hx]; rw[gj (by omega)]);refine gcl A M ec ((qna hx▸km)) fun bn _ M a A=>?_;refine sda A λA=>?_;refine qa ?_;replace M:Mg w bn ([]):=by
       have h9:=M.sub (.refl _);exact h9
      refine aj _ _ _ (by omega) ⟨(kat x).par,n+1,rfl,⟨by omega,by omega,by omega,by omega,by omega⟩,A.keep _ ⟨rfl,rfl,rfl,trivial⟩,M⟩
     ·have ae':=f6 ae;refine sdc A qe ae λA=>?_;refine sda A λA=>?_;refine qcf ah A ?_;refine wsr fun _ ar=>?_;rcases tf ((x==12))with af|af
      ·have af':=gr af;refine sdc A qe af λA=>?_;refine sda A λA=>?_;refine qct ar A ?_;refine wrl (sdm A λA=>?_);refine sdo (v:=iV (n+2)) A (qb rfl rfl (zq (jk (by omega) (by omega)))) λA=>?_;refine sda A λA=>?_;refine qa (ag _ _ (wrl (sdm A λA=>?_)));have hx:okT 20 x=true:=qah (by omega) (by omega);have hpr:=qdi hx;have hst:=qcd hx;have how:(kat x).own=2:=(by rw[qrh hx]; rw[f7 (by omega),gj (by omega)]);refine gcl A M ec ((qna hx▸km)) fun bp _ M a A=>?_;refine sda A λA=>?_;refine qa ?_;replace M:Mg w bp ([]):=by
        have h9:=M.sub (.refl _);exact h9
       refine aj _ _ _ (by omega) ⟨(kat x).par,n+2,rfl,⟨by omega,by omega,by omega,by omega,by omega⟩,A.keep _ ⟨rfl,rfl,rfl,trivial⟩,M⟩
      ·have af':=f6 af;refine sdc A qe af λA=>?_;refine sda A λA=>?_;refine qcf ar A ?_;refine wp_skip (ag _ _ (wrl (sdm A λA=>?_)));have hx:okT 20 x=true:=qah (by omega) (by omega);have hpr:=qdi hx;have hst:=qcd hx;have how:(kat x).own=0:=(by rw[qrh hx]; rw[f7 (by omega),f7 (by omega)]);refine gcl A M ec ((qna hx▸km)) fun bq _ M a A=>?_;refine sda A λA=>?_;refine qa ?_;replace M:Mg w bq ([]):=by
        have h9:=M.sub (.refl _);exact h9
       refine aj _ _ _ (by omega) ⟨(kat x).par,n,rfl,⟨by omega,by omega,by omega,by omega,by omega⟩,A.keep _ ⟨rfl,rfl,rfl,trivial⟩,M⟩
 ·have ai':=fy ai;refine sdc A zt ai λA=>?_;refine qcf ay A ?_;refine wp_exit (bf _ _ (wsr fun _ aw=>sdm A λA=>?_));refine sda A λA=>?_;refine qr1 aw hret A ?_;have ax:x=-1:=by omega
  subst ax;rw[jqj]at au;exact⟨by rw[show n=un t by omega],M.bel⟩
theorem zai{w:World}{so:Option Addr}{ca:Nat}{ps:List Sp}(hPs:PR w so ps)(hB4:∀p∈ps,Tr.bulks (p.vs.map Dt.tr)≤3000000)(hl:ps.length≤1000000000):Calls Tryz.prog 40 #[.slice so ps.length ca] w (RB w (iV (ckC (ps.map Sp.k)))):=by
 have M:=Mg.start w;refine wof Tryz.func40 Tryz.ntmps40 fun Q hret hnorm hP a A=>?_;refine wsr fun _ br=>sda A λA=>?_;refine qwk br fun _ bw=>wsr fun _ bq=>sdm A λA=>?_;refine sdo A (qr ic rfl) λA=>?_;rcases tf (decide (16<((ps.length:Nat):Int)))with ah|ah
 ·have ah':=f5 ah;refine sdc A jh ah λA=>?_;refine qct bq A ?_;refine wsr fun _ bz=>sda A λA=>?_;refine qr1 bz hret A ?_;exact⟨by rw[zfb (by rw[gy]; omega)],M.bel⟩
 ·have ah':=fy ah;refine sdc A jh ah λA=>?_;refine qcf bq A ?_;refine wp_skip (bw _ _ (wsk fun _ cc=>wsr fun _ cd=>sda A λA=>?_));refine qa (cd _ _ (wp_block (zg (fun m_ a w1=>∃(i:Nat),m_=1+(ps.length-i)∧(i≤ps.length∧ckA ((ps.map Sp.k).drop i)=ckA (ps.map Sp.k))∧Sl a 54 [(0,.slice so ps.length ca),(3,iV (((i:Nat):Int))),(5,.slice so ps.length ca),(6,iV (((ps.length:Nat):Int))),(7,bV false)]∧Mg w w1 ([])) _ ⟨0,rfl,⟨ii _,rfl⟩,A.keep _ ⟨rfl,rfl,rfl,rfl,rfl,trivial⟩,M⟩ ?_)));clear M A;rintro m_ a _ ⟨i,rfl,ai,A,M⟩ _ ce;obtain⟨_,af⟩:=ai;refine wsk fun _ av=>wsr fun _ ak=>?_;iterate 2 refine sdm A λA=>?_
  refine sdo A (qr ic rfl) λA=>?_;rcases tf (decide (((i:Nat):Int)<((ps.length:Nat):Int)))with ac|ac
  ·have ac':=f5 ac;refine sdc A qy ac λA=>?_;refine qct ak A ?_;refine wp_skip (av _ _ (wsk fun _ aw=>wp_block (wsk fun _ ax=>wsr fun _ am=>?_)));iterate 2 refine sdm A λA=>?_
   obtain⟨sp17,bs18,os19,is20,ms21,rs22,ls23,Hs24⟩:=hPs.at_ (i:=i) (by omega);refine sdo (v:=pA bs18 (os19+i*2)) A (qk (k:=i) ic (by kernel_rfl) rfl rfl (by first|rfl|omega) ls23 (by omega)) λA=>?_;refine sdo (v:=pA bs18 (os19+i*2)) A (qp qch rfl rfl) λA=>?_;refine sdo A (xl (j:=0) M Hs24 o93 rfl rfl rfl) λA=>?_;rcases tf (okT 20 sp17.ty)with ab|ab
   ·have hn27:decide ((kat sp17.ty).nm=⟨#[]⟩)=false:=gn (xea ab);refine gcl A M ec (qrf) fun _ _ M a A=>?_;refine sdo (v:=bV false) A (qb rfl rfl (fun w=>(je gi w).trans (by rw[hn27]<;>rfl))) λA=>?_;refine qcf am A ?_;refine wp_skip (ax _ _ (wsk fun _ ay=>wsk fun _ ap=>xg (S:=fun w1=>Mg w w1 ([])) (by kernel_rfl) ?_));replace M:=M.drew;refine amv A 0 rfl hP (M.sub ns) λA=>?_;refine amv A 1 rfl hP (M.sub ns) λA=>?_;refine atk (v:=pA bs18 (os19+i*2)) A 2 rfl hP (M.sub ns) (λ_ M=>qk (k:=i) ic (by kernel_rfl) rfl rfl (by first|rfl|omega) ls23 (by omega)) λA=>?_;refine atk (v:=pA bs18 (os19+i*2+1)) A 3 rfl hP (M.sub ns) (λ_ M=>qp qci rfl rfl) λA=>?_;refine atk A 4 rfl hP (M.sub ns) (λ_ M=>xl (j:=1) M Hs24 ke rfl rfl rfl) λA=>?_;refine atk (v:=iV (((sp17.vs.length:Nat):Int))) A 5 rfl hP (M.sub ns) (λ_ M=>qr f9 rfl) λA=>?_;refine amv A 6 rfl hP (M.sub ns) λA=>?_;refine amv A 7 rfl hP (M.sub ns) λA=>?_;refine atk (v:=pA bs18 (os19+i*2)) A 8 rfl hP (M.sub ns) (λ_ M=>qk (k:=i) ic (by kernel_rfl) rfl rfl (by first|rfl|omega) ls23 (by omega)) λA=>?_;refine atk (v:=pA bs18 (os19+i*2)) A 9 rfl hP (M.sub ns) (λ_ M=>qp qch rfl rfl) λA=>?_;refine atk A 10 rfl hP (M.sub ns) (λ_ M=>xl (j:=0) M Hs24 o93 rfl rfl rfl) λA=>?_;refine zn (by kernel_rfl) (jc A 11 rfl rfl rfl rfl ec (zsa ab) ?_);rintro _ _ ⟨rfl,az⟩;replace M:=M.call az;refine⟨_,rfl,(M.sub ns),?_⟩;intro a A;rcases tf ((((sp17.vs.length:Nat):Int) != un sp17.ty))with aa|aa
    ·have aa':=iy.1 aa;refine atk (v:=bV true) A 12 rfl hP (M.sub ns) (λ_ M=>qb rfl rfl (fun w=>(zh w).trans (by rw[aa]))) λA=>?_;refine jl (by kernel_rfl) ?_;refine ap _ _ (ct A ?_);refine wsr fun _ bd=>sda A λA=>?_;refine qr1 bd hret A ?_;exact⟨by rw[qcb (by rw[gy]; omega),←af,qfb (yg is20),jde ab aa',f7 (by decide)],M.bel⟩
    ·have aa':=ie.1 aa;refine atk (v:=bV false) A 12 rfl hP (M.sub ns) (λ_ M=>qb rfl rfl (fun w=>(zh w).trans (by rw[aa]))) λA=>?_;refine jl (by kernel_rfl) ?_;refine ap _ _ (cf A ?_);refine wp_skip (ay _ _ (wsr fun _ bf=>sda A λA=>?_));refine qa (bf _ _ (wp_block ?_));obtain⟨vl,hvl⟩:∃q,q=sp17.vs.length:=⟨_,rfl⟩;have hvb:=yj sp17.vs;have hv4:=hB4 _ ms21;refine zg (fun m_ a w1=>∃(k:Nat),m_=1+(vl-k)∧(k≤sp17.vs.length∧((sp17.vs.take k).map Dt.tr).all (qs qh)=true)∧Sl a 54 [(0,.slice so ps.length ca),(3,iV (((i:Nat):Int))),(4,iV (((k:Nat):Int))),(5,.slice so ps.length ca),(6,iV (((ps.length:Nat):Int))),(7,bV false),(8,iV (((i:Nat):Int))),(9,.slice so ps.length ca),(10,iV (((ps.length:Nat):Int))),(11,bV true),(14,.slice so ps.length ca),(15,iV (((i:Nat):Int))),(16,pA bs18 (os19+i*2)),(17,pA bs18 (os19+i*2)),(18,iV sp17.ty),(19,.string ((kat sp17.ty).nm)),(20,bV false),(21,.slice so ps.length ca),(22,iV (((i:Nat):Int))),(23,pA bs18 (os19+i*2)),(24,pA bs18 (os19+i*2+1)),(25,.slice sp17.vo sp17.vs.length sp17.vc),(26,iV (((sp17.vs.length:Nat):Int))),(27,.slice so ps.length ca),(28,iV (((i:Nat):Int))),(29,pA bs18 (os19+i*2)),(30,pA bs18 (os19+i*2)),(31,iV sp17.ty),(32,iV (un sp17.ty)),(33,bV false)]∧Mg w w1 ([])) _ ⟨0,rfl,⟨ii _,rfl⟩,A.keep _ (by repeat' constructor),M⟩ ?_;clear M A;rintro m_ a cg ⟨k,rfl,aj,A,M⟩ _ bg;obtain⟨_,aq⟩:=aj;refine wsk fun _ bh=>wsr fun _ ar=>?_;iterate 3 refine sdm A λA=>?_
     refine sdo (v:=pA bs18 (os19+i*2)) A (qk (k:=i) ic (by kernel_rfl) rfl rfl (by first|rfl|omega) ls23 (by omega)) λA=>?_;refine sdo (v:=pA bs18 (os19+i*2+1)) A (qp qci rfl rfl) λA=>?_;refine sdo A (xl (j:=1) M Hs24 ke rfl rfl rfl) λA=>?_;refine sdo A (qr f9 rfl) λA=>?_;rcases tf (decide (((k:Nat):Int)<((sp17.vs.length:Nat):Int)))with ae|ae
     ·have ae':=f5 ae;refine sdc A qy ae λA=>?_;refine qct ar A ?_;refine wp_skip (bh _ _ (wsk fun _ bi=>wp_block (wsr fun _ au=>?_)));iterate 2 refine sdm A λA=>?_
      refine sdo (v:=pA bs18 (os19+i*2)) A (qk (k:=i) ic (by kernel_rfl) rfl rfl (by first|rfl|omega) ls23 (by omega)) λA=>?_;refine sdo (v:=pA bs18 (os19+i*2+1)) A (qp qci rfl rfl) λA=>?_;refine sdo A (xl (j:=1) M Hs24 ke rfl rfl rfl) λA=>?_;refine sdm A λA=>?_;obtain⟨tk45,btk45,otk45,itk45,mtk45,rtk45_,ltk45,Htk45⟩:=que rs22.v rs22.d (i:=k) (by omega);refine sdo (v:=pA btk45 (otk45+k*11)) A (qk (k:=k) f9 (by kernel_rfl) rfl rfl (by first|rfl|omega) ltk45 (by omega)) λA=>?_;refine sdo A (zp M Htk45 zv rfl rfl) λA=>?_;rcases tf (qs qh tk45.tr)with ag|ag
      ·refine gcl A M ec ((ag▸rsound_any (t:=tk45) (Dt.keep M.bel _ rtk45_) (by have h8:=qdh mtk45; have h9:=hB4 _ ms21; omega))) fun ch _ M a A=>?_;refine sdu A λA=>?_;refine qcf au A ?_;refine wp_skip (bi _ _ (wrl (sdm A λA=>?_)));refine sdo (v:=iV (((k+1:Nat):Int))) A (qb rfl rfl (fun w=>(zq (jk (by omega) (by omega)) w).trans (by rw[show(((k:Nat):Int)+1:Int)=((k+1:Nat):Int)from by omega]))) λA=>?_;refine sda A λA=>?_;refine qa ?_;replace M:Mg w ch ([]):=by
        have h9:=M.sub (.refl _);exact h9
       refine bg _ _ _ (by omega) ⟨k+1,rfl,⟨by omega,jra aq itk45 ag⟩,A.keep _ (by repeat' constructor),M⟩
      ·refine gcl A M ec ((ag▸rsound_any (t:=tk45) (Dt.keep M.bel _ rtk45_) (by have h8:=qdh mtk45; have h9:=hB4 _ ms21; omega))) fun _ _ M a A=>?_;refine sdu A λA=>?_;refine qct au A ?_;refine wsr fun _ bj=>sda A λA=>?_;refine qr1 bj hret A ?_;exact⟨by rw[qcb (by rw[gy]; omega),←af,qfb (yg is20),qvg ab aa' (xbd mtk45 ag)]<;>rfl,M.bel⟩
     ·have ae':=fy ae;refine sdc A qy ae λA=>?_;refine qcf ar A ?_;refine wp_exit (aw _ _ (wrl (sdm A λA=>?_)));refine sdo (v:=iV (((i+1:Nat):Int))) A (qb rfl rfl (fun w=>(zq (jk (by omega) (by omega)) w).trans (by rw[show(((i:Nat):Int)+1:Int)=((i+1:Nat):Int)from by omega]))) λA=>?_;refine sda A λA=>?_;refine qa ?_;replace M:Mg w cg ([]):=by
       have h9:=M.sub (.refl _);exact h9
      refine ce _ _ _ (by omega) ⟨i+1,rfl,⟨by omega,by rw[←af,qfb (i:=i) (yg is20),qvg ab aa' (b:=true) (by rw[←aq,ld (by omega)])]; rfl⟩,A.keep _ ⟨rfl,rfl,rfl,rfl,rfl,trivial⟩,M⟩
   ·refine gcl A M ec (xah ab) fun _ _ M a A=>?_;refine sdo (v:=bV true) A (qb rfl rfl (fun w=>(je gi w).trans (by rw[gv rfl]<;>rfl))) λA=>?_;refine qct am A ?_;refine wsr fun _ bn=>sda A λA=>?_;refine qr1 bn hret A ?_;exact⟨by rw[qcb (by rw[gy]; omega),←af,qfb (yg is20),zpi ab,f7 (by decide)],M.bel⟩
  ·have ac':=fy ac;refine sdc A qy ac λA=>?_;refine qcf ak A ?_;refine wp_exit (cc _ _ (wsr fun _ bp=>sda A λA=>?_));refine qr1 bp hret A ?_;exact⟨by rw[qcb (by rw[gy]; omega),←af,i7 (by rw[gy]; omega)]<;>rfl,M.bel⟩
theorem rfirst_any{w:World}{so:Option Addr}{ca:Nat}{ps:List Sp}(hPs:PR w so ps)(hl:ps.length≤1000000000)(hO:∀p∈ps,okT 20 p.ty=true){t:Int}:Calls Tryz.prog 41 #[.slice so ps.length ca,iV t] w (RB w (iV (fdI (ps.map Sp.k) t))):=by
 have M:=Mg.start w;refine wof Tryz.func41 Tryz.ntmps41 fun Q hret hnorm hP a A=>?_;refine wsr fun _ ak=>sda A λA=>?_;refine qwk ak fun _ am=>wsr fun _ ap=>sda A λA=>?_;refine qa (ap _ _ (wp_block (zg (fun m_ a w1=>∃(i:Nat),m_=1+(ps.length-i)∧(i≤ps.length∧∀(j:Nat) u,j<i→ps[j]?=some u→(fun p:Sp=>yn p.ty t) u=false)∧Sl a 20 [(0,.slice so ps.length ca),(1,iV t),(5,iV (((i:Nat):Int)))]∧Mg w w1 ([])) _ ⟨0,rfl,⟨ii _,fun j u h=>absurd h (j4 _)⟩,A.keep _ ⟨rfl,rfl,rfl,trivial⟩,M⟩ ?_)));clear M A;rintro m_ a _ ⟨i,rfl,ae,A,M⟩ _ aq;obtain⟨_,ab⟩:=ae;refine wsk fun _ ar=>wsr fun _ aj=>?_;iterate 2 refine sdm A λA=>?_
 refine sdo A (qr ic rfl) λA=>?_;rcases tf (decide (((i:Nat):Int)<((ps.length:Nat):Int)))with ac|ac
 ·have ac':=f5 ac;refine sdc A qy ac λA=>?_;refine qct aj A ?_;refine wp_skip (ar _ _ (wsk fun _ ag=>wp_block (wsr fun _ af=>?_)));iterate 2 refine sdm A λA=>?_
  obtain⟨sp12,bs13,os14,is15,ms16,rs17,ls18,Hs19⟩:=hPs.at_ (i:=i) (by omega);refine sdo (v:=pA bs13 (os14+i*2)) A (qk (k:=i) ic (by kernel_rfl) rfl rfl (by first|rfl|omega) ls18 (by omega)) λA=>?_;refine sdo (v:=pA bs13 (os14+i*2)) A (qp qch rfl rfl) λA=>?_;refine sdo A (xl (j:=0) M Hs19 o93 rfl rfl rfl) λA=>?_;refine sdm A λA=>?_;rcases tf (yn sp12.ty t)with aa|aa
  ·refine gcl A M ec ((aa▸qzi (hO _ ms16))) fun _ _ M a A=>?_;refine qct af A ?_;refine wsr fun _ ah=>sdm A λA=>?_;refine sda A λA=>?_;refine qr1 ah hret A ?_;exact⟨by rw[zwa,zje (p:=fun p:Sp=>yn p.ty t) ab is15 aa],M.bel⟩
  ·refine gcl A M ec ((aa▸qzi (hO _ ms16))) fun au _ M a A=>?_;refine qcf af A ?_;refine wp_skip (ag _ _ (wrl (sdm A λA=>?_)));refine sdo (v:=iV (((i+1:Nat):Int))) A (qb rfl rfl (fun w=>(zq (jk (by omega) (by omega)) w).trans (by rw[show(((i:Nat):Int)+1:Int)=((i+1:Nat):Int)from by omega]))) λA=>?_;refine sda A λA=>?_;refine qa ?_;replace M:Mg w au ([]):=by
    have h9:=M.sub (.refl _);exact h9
   refine aq _ _ _ (by omega) ⟨i+1,rfl,⟨by omega,fun j u hj hu=>if h9:j<i then ab j u h9 hu else by have h8:j=i:=(by omega); subst h8; rw[is15]at hu; rw[←io hu]; exact aa⟩,A.keep _ ⟨rfl,rfl,rfl,trivial⟩,M⟩
 ·have ac':=fy ac;refine sdc A qy ac λA=>?_;refine qcf aj A ?_;refine wp_exit (am _ _ (wsr fun _ ai=>sda A λA=>?_));refine qr1 ai hret A ?_;exact⟨by rw[zwa,qye (p:=fun p:Sp=>yn p.ty t) (fun j u hj=>ab j u (by omega))],M.bel⟩
theorem jrb{xs ys:List Sp}(h:xs.map Sp.k=ys.map Sp.k){i:Nat}{p q:Sp}(hp:xs[i]?=some p)(hq:ys[i]?=some q):p.k=q.k:=by
 have h1:=yg hp;rw[h,yg hq]at h1;exact(io h1).symm
theorem qqh{w:World}{sa sb:Option Addr}{ca cb:Nat}{xs ys:List Sp}(hPa:PR w sa xs)(hPb:PR w sb ys)(he:xs.map Sp.k=ys.map Sp.k)(hBl:∀p∈xs,p.vs.length≤1000000000)(hl:xs.length≤1000000000):Calls Tryz.prog 10 #[.slice sa xs.length ca,.slice sb ys.length cb] w (RB w (bV true)):=by
 have hel:xs.length=ys.length:=by have:=j9 List.length he; simpa using this
 have M:=Mg.start w;refine wof Tryz.func10 Tryz.ntmps10 fun Q hret hnorm hP a A=>?_;refine wsr fun _ ai=>sda A λA=>?_;refine qwk ai fun _ aj=>wsr fun _ ak=>sdm A λA=>?_;refine sdo A (qr ic rfl) λA=>?_;refine sdm A λA=>?_;refine sdo A (qr ic rfl) λA=>?_;refine sdo (v:=bV false) A (qb rfl rfl (fun w=>(zh w).trans (by rw[show((((xs.length:Nat):Int) != ((ys.length:Nat):Int)))=false from(ie.2 (by omega))]))) λA=>?_;refine qcf ak A ?_;refine wp_skip (aj _ _ (wsk fun K4 am=>wsr fun _ ap=>sda A λA=>?_));refine qa (ap _ _ (wp_block (zg (fun m_ a w1=>∃(i:Nat),m_=1+(xs.length-i)∧(i≤xs.length)∧Sl a 42 [(0,.slice sa xs.length ca),(1,.slice sb ys.length cb),(5,iV (((i:Nat):Int))),(6,.slice sa xs.length ca),(7,iV (((xs.length:Nat):Int))),(8,.slice sb ys.length cb),(9,iV (((ys.length:Nat):Int))),(10,bV false)]∧Mg w w1 ([])) _ ⟨0,rfl,ii _,A.keep _ (by repeat' constructor),M⟩ ?_)));clear M A;rintro m_ a _ ⟨i,rfl,ab,A,M⟩ _ aq;have _:=ab;refine wsk fun _ ar=>wsr fun _ ac=>?_;iterate 2 refine sdm A λA=>?_
 refine sdo A (qr ic rfl) λA=>?_;rcases tf (decide (((i:Nat):Int)<((xs.length:Nat):Int)))with aa|aa
 ·have aa':=f5 aa;refine sdc A qy aa λA=>?_;refine qct ac A ?_;refine wp_skip (ar _ _ (wsk fun _ ae=>wp_block (wsk fun _ af=>xg (S:=fun w1=>Mg w w1 ([])) (by kernel_rfl) ?_)));replace M:=M.drew;refine amv A 0 rfl hP (M.sub ns) λA=>?_;refine amv A 1 rfl hP (M.sub ns) λA=>?_;obtain⟨sp14,bs15,os16,is17,ms18,rs19,ls20,Hs21⟩:=hPa.at_ (i:=i) (by omega);refine atk (v:=pA bs15 (os16+i*2)) A 2 rfl hP (M.sub ns) (λ_ M=>qk (k:=i) ic (by kernel_rfl) rfl rfl (by first|rfl|omega) ls20 (by omega)) λA=>?_;refine atk (v:=pA bs15 (os16+i*2)) A 3 rfl hP (M.sub ns) (λ_ M=>qp qch rfl rfl) λA=>?_;refine atk A 4 rfl hP (M.sub ns) (λ_ M=>xl (j:=0) M Hs21 o93 rfl rfl rfl) λA=>?_;refine amv A 5 rfl hP (M.sub ns) λA=>?_;refine amv A 6 rfl hP (M.sub ns) λA=>?_;obtain⟨sp22,bs23,os24,is25,ms26,rs27,ls28,Hs29⟩:=hPb.at_ (i:=i) (by omega);refine atk (v:=pA bs23 (os24+i*2)) A 7 rfl hP (M.sub ns) (λ_ M=>qk (k:=i) ic (by kernel_rfl) rfl rfl (by first|rfl|omega) ls28 (by omega)) λA=>?_;refine atk (v:=pA bs23 (os24+i*2)) A 8 rfl hP (M.sub ns) (λ_ M=>qp qch rfl rfl) λA=>?_;refine atk A 9 rfl hP (M.sub ns) (λ_ M=>xl (j:=0) M Hs29 o93 rfl rfl rfl) λA=>?_;refine atk (v:=bV false) A 10 rfl hP (M.sub ns) (λ_ M=>qb rfl rfl (fun w=>(zh w).trans (by rw[show((sp14.ty != sp22.ty))=false from(ie.2 (j9 Prod.fst (jrb he is17 is25)))]))) λA=>?_;refine amv A 11 rfl hP (M.sub ns) λA=>?_;refine amv A 12 rfl hP (M.sub ns) λA=>?_;refine amv A 13 rfl hP (M.sub ns) λA=>?_;refine atk (v:=pA bs15 (os16+i*2)) A 14 rfl hP (M.sub ns) (λ_ M=>qk (k:=i) ic (by kernel_rfl) rfl rfl (by first|rfl|omega) ls20 (by omega)) λA=>?_;refine atk (v:=pA bs15 (os16+i*2+1)) A 15 rfl hP (M.sub ns) (λ_ M=>qp qci rfl rfl) λA=>?_;refine atk A 16 rfl hP (M.sub ns) (λ_ M=>xl (j:=1) M Hs21 ke rfl rfl rfl) λA=>?_;refine amv A 17 rfl hP (M.sub ns) λA=>?_
  refine amv A 18 rfl hP (M.sub ns) λA=>?_;refine atk (v:=pA bs23 (os24+i*2)) A 19 rfl hP (M.sub ns) (λ_ M=>qk (k:=i) ic (by kernel_rfl) rfl rfl (by first|rfl|omega) ls28 (by omega)) λA=>?_;refine atk (v:=pA bs23 (os24+i*2+1)) A 20 rfl hP (M.sub ns) (λ_ M=>qp qci rfl rfl) λA=>?_;refine atk A 21 rfl hP (M.sub ns) (λ_ M=>xl (j:=1) M Hs29 ke rfl rfl rfl) λA=>?_;refine zn (by kernel_rfl) (jc A 22 rfl rfl rfl rfl ec (zrj (rs19.v.below M.bel) (fun t ht=>Dt.keep M.bel _ (rs19.d t ht)) (rs27.v.below M.bel) (fun t ht=>Dt.keep M.bel _ (rs27.d t ht)) (j9 Prod.snd (jrb he is17 is25)) (hBl _ ms18)) ?_);rintro _ au ⟨rfl,ag⟩;replace M:=M.call ag;refine⟨_,rfl,(M.sub ns),?_⟩;intro a A;refine atk (v:=bV false) A 23 rfl hP (M.sub ns) (λ_ M=>ya rfl qaf) λA=>?_;refine atk (v:=bV false) A 24 rfl hP (M.sub ns) (λ_ M=>qbg rfl rfl rfl rfl) λA=>?_;refine jl (by kernel_rfl) ?_;refine af _ _ (cf A ?_);refine wp_skip (ae _ _ (wrl (sdm A λA=>?_)));refine sdo (v:=iV (((i+1:Nat):Int))) A (qb rfl rfl (fun w=>(zq (jk (by omega) (by omega)) w).trans (by rw[show(((i:Nat):Int)+1:Int)=((i+1:Nat):Int)from by omega]))) λA=>?_;refine sda A λA=>?_;refine qa ?_;replace M:Mg w au ([]):=by
   have h9:=M.sub (.refl _);exact h9
  refine aq _ _ _ (by omega) ⟨i+1,rfl,by omega,A.keep _ (by repeat' constructor),M⟩
 ·have aa':=fy aa;refine sdc A qy aa λA=>?_;refine qcf ac A ?_;refine wp_exit (am _ _ (wsr fun _ ah=>sda A λA=>?_));refine qr1 ah hret A ?_;exact⟨rfl,M.bel⟩
end Go.Proofs.YtmnlfahgklnpeaaGreatDoor.G
