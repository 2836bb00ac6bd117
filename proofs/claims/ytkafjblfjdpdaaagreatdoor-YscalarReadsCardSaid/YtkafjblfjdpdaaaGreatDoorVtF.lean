/-
  A TREE AS AN ARGUMENT: read.
  WHAT THE CARDS OF LAYER 6 TAKE FROM THE LISTED VARIABLES: the powers of ten, the error of 'out of range', the tables of unicode/utf8; a world that holds all seven.
-/
import Derived.Test.YtkafjblfjdpdaaaGreatDoorCards
import Derived.Test.YtkafjblfjdpdaaaGreatDoorTie
import Derived.Test.YtkafjblfjdpdaaaGreatDoorVtNT
import Derived.PinnedBridge
import Derived.Deep.DeepHandedRow
import Derived.Lib.SmallJoins
set_option maxRecDepth 100000
namespace Go.Proofs.YtkafjblfjdpdaaaGreatDoor
open Go.ChangeShapes Go.WideShapes Go.ChangeAt Go.RowKit Go.Deep
section
variable {H:Type} {enc:TypeId×Value->H} {P:Program} {w:World} {base:Nat} {spare:Nat->Bool} {held:Bool}
end
end Go.Proofs.YtkafjblfjdpdaaaGreatDoor
namespace Go.Proofs.YtkafjblfjdpdaaaGreatDoor
open Go.ChangeShapes Go.WideShapes Go.ChangeAt Go.RowKit
theorem own:ownKnob Tryz.prog.godebug=none:=by kernel_rfl
def zN5:DataW Unit->Array Value
 | .agg xs=>(xs.filterMap fun
   | .lit (.int k n)=>some (Value.int k n)
   |_=>none).toArray
 |_=> #[]
noncomputable def laidWorld7 (os:Os):World:=
 let w0:=World.holding Tryz.prog os ⟨#[],#[],[]⟩
 let put (h:Array Obj) (g:Nat) (cs:Array Value):Array Obj:=h.modify g fun
  | .cells _ t frozen=> .cells cs t frozen
  |o=>o
 let h1:=put w0.heap 1 (Lib.firstTab.map fun z=>Value.int .u8 z).toArray
 let h2:=put h1 2 ((List.range 16).flatMap fun i=> [Value.int .u8 (Lib.accLo i),Value.int .u8 (Lib.accHi i)]).toArray
 let h3:=put h2 6 (zN5 Rows.laid_math_bits_deBruijn32tab)
 let h4:=put h3 7 (zN5 Rows.laid_math_bits_deBruijn64tab)
 let h5:=put h4 3 (zN5 Rows.laid_internal_strconv_uint64pow10)
 let n:=w0.heap.size
 let h6:=put h5 5 #[.iface 253 (.pointer (some ⟨n,0,none⟩))]
 let h7:=put h6 4 #[.iface 253 (.pointer (some ⟨n+1,0,none⟩))]
 let h8:=h7.push (.cells #[.string ⟨#[118,97,108,117,101,32,111,117,116,32,111,102,32,114,97,110,103,101]⟩] 255 (0,0))
 let h9:=h8.push (.cells #[.string ⟨#[105,110,118,97,108,105,100,32,115,121,110,116,97,120]⟩] 255 (0,0))
 {w0 with heap:=h9}
abbrev seven:List (String×DataW Unit):=[("math/bits.deBruijn32tab",Rows.laid_math_bits_deBruijn32tab),("math/bits.deBruijn64tab",Rows.laid_math_bits_deBruijn64tab),("internal/strconv.uint64pow10",Rows.laid_internal_strconv_uint64pow10),("unicode/utf8.acceptRanges",Rows.laid_unicode_utf8_acceptRanges),("strconv.ErrRange",Rows.laid_strconv_ErrRange),("strconv.ErrSyntax",Rows.laid_strconv_ErrSyntax),("unicode/utf8.first",Rows.laid_unicode_utf8_first)]
theorem met_seven(os:Os)(args:Array Value):laidMet Tryz.prog seven ((laidWorld7 os).forCall (fun _ _=>0) ⟨#[],args,[]⟩).memory:=
 laidMet_of_run' 8 (by kernel_rfl) (by kernel_rfl)
theorem zq4 {P:Program} {W:World} {x:String×DataW Unit} {l:List (String×DataW Unit)} {ps:List MemPlace} (h:DataW.LaidVars P W (x::l) ps): ∃qs,DataW.LaidVars P W l qs:=by
 obtain⟨n,d⟩:=x;obtain⟨_,_,_,_,_,q,_,_,_,_,h,_⟩:=h;exact⟨q,h⟩
theorem zN4 {P:Program} {W:World} {name:String} {k:IntKind} {zs:List Int} {rest:List (String×DataW Unit)} {ps:List MemPlace} {g:Nat} {t e:TypeId} {n:Nat}
 (hg:P.globalNamed name=some g) (hty:(P.globals[g]?).map (·.type)=some t) (ht:P.underlying t=some (.array n e)) (he:P.underlying e=some (.int k)) (hce:P.cellsOf e=1) (hct:P.cellsOf t=n)
 (h:DataW.LaidVars P W ((name,Lib.tabData k zs)::rest) ps):Lib.TabIs P W name k zs:=by
 obtain⟨g',t',cs,fuel,p,q,hg',ht',hvar,hd,_,_⟩:=h;obtain rfl:=Option.some.inj (hg.symm.trans hg');obtain rfl:=Option.some.inj (hty.symm.trans ht');unfold Lib.TabIs;rw[hvar,←Lib.cells_of_tab ht he hce hct hd]
theorem pow_data:(Rows.laid_internal_strconv_uint64pow10:DataW Unit)=Lib.tabData .u64 Lib.pow10Tab:=by kernel_rfl
theorem pow_of_vars {W:World} {x y:String×DataW Unit} {rest:List (String×DataW Unit)} {ps:List MemPlace} (h:DataW.LaidVars Tryz.prog W (x::y::("internal/strconv.uint64pow10",Rows.laid_internal_strconv_uint64pow10)::rest) ps):
 ∀W',Below W.heap.size W W'->Lib.TabIs Tryz.prog W' "internal/strconv.uint64pow10" .u64 Lib.pow10Tab:=by
 obtain⟨_,h1⟩:=zq4 h;obtain⟨_,h2⟩:=zq4 h1;rw[pow_data]at h2;exact Lib.tabBelow_of_tabIs (zN4 (n:=20) (e:=212) (t:=232) (g:=3) (by kernel_rfl) (by kernel_rfl) (by kernel_rfl) (by kernel_rfl) (by kernel_rfl) (by kernel_rfl) h2)
theorem err_of_vars {W:World} {d:DataW Unit} {nm:String} {rest:List (String×DataW Unit)} {ps:List MemPlace} (h:DataW.LaidVars Tryz.prog W (("strconv.ErrRange",.iface nm d)::rest) ps):ErrAt W:=by
 obtain⟨g',t',cs,fuel,p,q,hg',ht',hvar,hd,_,_⟩:=h;obtain rfl:=Option.some.inj ((show Tryz.prog.globalNamed "strconv.ErrRange" =some 5 by kernel_rfl).symm.trans hg');obtain rfl:=Option.some.inj ((show(Tryz.prog.globals[5]?).map (·.type)=some 104 by kernel_rfl).symm.trans ht');obtain⟨f2,u,v,hcs,_,_⟩:=iface_of_trod Tryz.underlying104 hd;have hc:=World.var?_cell hg' hvar 0;have h0:cs[0]?=some (.iface u v):=by rw[←Array.getElem?_toList,hcs];rfl
 rw[h0]at hc;exact⟨Lib.lt_of_cell hc,u,v,hc⟩
theorem seven_env {W:World} (hL:laidMetH Tryz.prog seven W):Env W:=by
 have hL':laidMet Tryz.prog seven W:=hL;have h4:=Lib.laidMet.reads hL' (.tail _ (.tail _ (.tail _ (.head _))));have h3:=Lib.laidMet.reads hL' (.tail _ (.tail _ (.tail _ (.tail _ (.tail _ (.tail _ (.head _)))))));have e4:(Rows.laid_unicode_utf8_acceptRanges:DataW Unit)=Lib.acceptData:=by kernel_rfl
 have e3:Rows.laid_unicode_utf8_first=Lib.firstData:=Pinned.utf8First_eq;rw[e4]at h4;rw[e3]at h3;have ht:tabs W:=utf8Tabs_of_reads (ρ:=Tryz.lays260_ren) Tryz.lays260 ⟨by kernel_rfl,by kernel_rfl,by kernel_rfl,by kernel_rfl,by kernel_rfl,by kernel_rfl,by kernel_rfl⟩ h3 h4;obtain⟨ps,h,_⟩:=hL';have hp:=pow_of_vars h;obtain⟨_,h1⟩:=zq4 h;obtain⟨_,h2⟩:=zq4 h1;obtain⟨_,h3'⟩:=zq4 h2;obtain⟨_,h4'⟩:=zq4 h3';exact⟨fun E h0 h1=>itoas_tab E h0 h1 W hp,err_of_vars h4',ht⟩
end Go.Proofs.YtkafjblfjdpdaaaGreatDoor
