/-
  A TREE AS AN ARGUMENT: read.
  WHAT THE CARDS OF LAYER 6 TAKE FROM THE LISTED VARIABLES: the powers of ten, the error of 'out of range', the tables of unicode/utf8; a world that holds all seven.
-/
import Derived.Test.YtkafjblfjdpdaaaGreatDoorBas
import Derived.Deep.Slices
import Derived.Deep.Strs
import Derived.ChangeArms
import Derived.OpenShut
import Derived.Test.YtkafjblfjdpdaaaGreatDoorCards
import Derived.Test.YtkafjblfjdpdaaaGreatDoorTie
import Derived.Test.YtkafjblfjdpdaaaGreatDoorVtNT
import Derived.WalkKit
import Derived.ProofKit
import Derived.ShutString
import Derived.PinnedBridge
import Derived.Deep.DeepHandedRow
import Derived.Lib.LaidIn
import Derived.Lib.LaidU8
import Derived.Lib.SmallJoins
import Derived.Lib.LaidTab
import Derived.Lib.AppendIntMem
import Derived.LaidLaws
import Derived.Lib.AtoiErrMem
namespace Go.Proofs.YtkafjblfjdpdaaaGreatDoor
open Go.ChangeShapes Go.WideShapes Go.ChangeAt Go.RowKit Go.Deep
section
variable {H:Type} {enc:TypeId×Value→H} {P:Program} {w:World} {base:Nat} {spare:Nat→Bool} {held:Bool}
theorem strrow_ofV {tL tE:TypeId} {fuel:Nat} {c:Value} {x:DataW H×List MemPlace} (hL:P.underlying tL=some (.slice tE))(hE:P.underlying tE=some .string)(cE:P.cellsOf tE=1)
 (hf:DataW.trod enc P w base spare held fuel tL [c]=some x): ∃r:SRow,c=r.v∧r.ok w∧ ∀y∈r.l,y.length≤maxLen:=by
 rcases open_strings hL hE cE hf with ⟨hcs,hx⟩|⟨a,len',cap',zs,hcs,hb,hl,hm,hz,hx,hcell,hwf⟩
 ·simp only[List.cons.injEq,and_true]at hcs
  exact⟨⟨none,0,[]⟩,hcs,⟨Nat.le_refl _,Nat.zero_le _,StrsIn.nil _ _⟩,fun x hx=>by cases hx⟩
 ·simp only[List.cons.injEq,and_true]at hcs
  have hlz:len'≤zs.length:=by rw[hz];split<;>omega
  have htl:((zs.take len').map fun s=>s.data.toList).length=len':=by rw[List.length_map,List.length_take];omega
  refine⟨⟨some a,cap',(zs.take len').map fun s=>s.data.toList⟩,by unfold SRow.v;rw[htl];exact hcs,⟨by simp only;rw[htl];exact hl,hm,?_⟩,?_⟩
  ·intro i hil
   simp only at hil
   rw[htl]at hil
   obtain⟨b,f,spot⟩:=a
   have hspot:spot=none:=by
    have:=hcell 0 (by omega)
    simpa [Addr.add] using World.cell?_spot this
   subst hspot
   have hc:=hcell i (by omega)
   rw[add_plain]at hc
   refine⟨b,f,rfl,hc.trans ?_⟩
   rw[List.getElem_map,List.getElem_take,st_of,List.getD_eq_getElem?_getD,List.getElem?_eq_getElem (by omega)]
   rfl
  ·intro x hx
   obtain⟨s,hs,rfl⟩:=List.mem_map.1 hx
   exact hwf s (List.mem_of_mem_take hs)
theorem i64_wf {n:Int} (h:(Lit.int .i64 n).wf=true):-9223372036854775808≤n∧n≤9223372036854775807:=by
 have h1:IntKind.i64.min=-9223372036854775808:=by decide
 have h2:IntKind.i64.max=9223372036854775807:=by decide
 simp[Lit.wf,h1,h2]at h
 exact h
theorem trod_tree {tV tI tS tL tR:TypeId} {f0 f1 f2 f3:Field}
 (hV:P.underlying tV=some (.struct #[f0,f1,f2,f3])) (ht:(f0.type=tI∧f0.offset=0)∧(f1.type=tS∧f1.offset=1)∧(f2.type=tL∧f2.offset=2)∧f3.type=tR∧f3.offset=3)
 (hI:P.underlying tI=some (.int .i64)) (hS:P.underlying tS=some .string) (hL:P.underlying tL=some (.slice tS)) (hR:P.underlying tR=some (.slice tV))
 (cV:P.cellsOf tV=4) (cI:P.cellsOf tI=1) (cS:P.cellsOf tS=1) (cL:P.cellsOf tL=1) (cR:P.cellsOf tR=1):
 ∀(N fuel:Nat),fuel≤N→ ∀(cs:List Value) (x:DataW H×List MemPlace),DataW.trod enc P w base spare held fuel tV cs=some x→ ∃y:Vt,cs=[.int .i64 y.k,.string (st y.t),y.ks.v,y.row]∧y.Ok w:=by
 obtain⟨⟨t0,o0⟩,⟨t1,o1⟩,⟨t2,o2⟩,t3,o3⟩:=ht
 intro N
 induction N with
 |zero=>
  intro fuel hN cs x h
  obtain rfl:fuel=0:=by omega
  obtain⟨xs,n,hfn,_⟩:=DataW.trod_struct hV h
  omega
 |succ N ih=>
  intro fuel hN cs x h
  obtain⟨xs,n,hfn,_,hl,hlen,hf⟩:=DataW.trod_struct hV h
  have h0:=hf 0 f0 rfl
  have h1:=hf 1 f1 rfl
  have h2:=hf 2 f2 rfl
  have h3:=hf 3 f3 rfl
  rw[cV]at hl
  match cs,hl with
  | [a,b,c,d],_=>
  match xs,hlen with
  | [y0,y1,y2,y3],_=>
    rw[t0,o0]at h0
    rw[t1,o1]at h1
    rw[t2,o2]at h2
    rw[t3,o3]at h3
    simp only[cI,cS,cL,cR,List.drop_zero,List.drop_succ_cons,List.take_succ_cons,List.take_zero,List.getElem?_cons_zero,List.getElem?_cons_succ]at h0 h1 h2 h3
    obtain⟨k,q0,z0⟩:=DataW.trod_int hI h0
    obtain⟨s,q1,z1⟩:=DataW.trod_string hS h1
    simp only[List.cons.injEq,and_true]at q0 q1
    subst q0 q1
    obtain⟨r,rfl,hr,hrk⟩:=strrow_ofV hL hS cS h2
    rcases DataW.trod_slice hR h3 with ⟨hd,_⟩|⟨ad,len,cap,elems,rest,m,hnm,hd,_,hb,hlc,hcm,hel,helem,_⟩
    ·simp only[List.cons.injEq,and_true]at hd
     subst hd
     exact⟨.mk k s.data.toList r none 0 [],by rw[show (Vt.mk k s.data.toList r none 0 []).t=s.data.toList from rfl,st_of];rfl,.mk _ _ _ _ _ _ (i64_wf z0.2) z1.2 hr hrk (Nat.le_refl _) (Nat.zero_le _) (fun i hi=>absurd hi (Nat.not_lt_zero _)) (fun i hi=>absurd hi (Nat.not_lt_zero _))⟩
    ·simp only[List.cons.injEq,and_true]at hd
     subst hd
     have each: ∀i,i<len→ ∃y:Vt,y.Ok w∧ ∀j,j<4→w.cell? (ad.add (i*4+j))=[Value.int .i64 y.k,.string (st y.t),y.ks.v,y.row][j]?:=fun i hil=>by
      have he:=helem i hil
      rw[List.getElem?_eq_getElem (by omega)]at he
      obtain⟨cs',hc,ht2⟩:=Option.bind_eq_some_iff.1 he
      obtain⟨y,rfl,hy⟩:=ih m (by omega) cs' _ ht2
      rw[cV]at hc
      obtain⟨_,_,hat⟩:=World.cells?_some hc
      exact⟨y,hy,fun j hj=>by rw[←add_add];exact hat j hj⟩
     obtain⟨X,hX⟩:=choose_lt each
     have hXl:((List.range len).map X).length=len:=by rw[List.length_map,List.length_range]
     refine⟨.mk k s.data.toList r (some ad) cap ((List.range len).map X),?_,.mk _ _ _ _ _ _ (i64_wf z0.2) z1.2 hr hrk (by rw[hXl];exact hlc) hcm ?_ ?_⟩
     ·rw[show (Vt.mk k s.data.toList r (some ad) cap ((List.range len).map X)).t=s.data.toList from rfl,st_of]
      show _=[Value.int .i64 k,.string s,r.v,.slice (some ad) ((List.range len).map X).length cap]
      rw[hXl]
     ·intro i hil
      rw[hXl]at hil
      obtain⟨bb,ff,spot⟩:=ad
      have hspot:spot=none:=by
       have:=(hX 0 (by omega)).2 0 (by omega)
       simpa [Addr.add] using World.cell?_spot this
      subst hspot
      have hc:=(hX i hil).2
      rw[List.getElem_map,List.getElem_range]
      refine⟨bb,ff,rfl,?_,?_,?_,?_⟩
      ·have:=hc 0 (by omega);rw[add_plain]at this;exact this
      ·have:=hc 1 (by omega);rw[add_plain]at this;exact this
      ·have:=hc 2 (by omega);rw[add_plain]at this;exact this
      ·have:=hc 3 (by omega);rw[add_plain]at this;exact this
     ·intro i hil
      rw[hXl]at hil
      rw[List.getElem_map,List.getElem_range]
      exact(hX i hil).1
theorem open_tree {tV tI tS tL tR:TypeId} {f0 f1 f2 f3:Field} {r:Reach} {b0:Nat} {v:Value} {d:DataW H} {p:List MemPlace}
 (hV:P.underlying tV=some (.struct #[f0,f1,f2,f3])) (ht:(f0.type=tI∧f0.offset=0)∧(f1.type=tS∧f1.offset=1)∧(f2.type=tL∧f2.offset=2)∧f3.type=tR∧f3.offset=3)
 (hI:P.underlying tI=some (.int .i64)) (hS:P.underlying tS=some .string) (hL:P.underlying tL=some (.slice tS)) (hR:P.underlying tR=some (.slice tV))
 (cV:P.cellsOf tV=4) (cI:P.cellsOf tI=1) (cS:P.cellsOf tS=1) (cL:P.cellsOf tL=1) (cR:P.cellsOf tR=1)
 (hv:Value.okWide P w r b0 tV v) (h:DataW.Trod enc P w base spare held tV v d p): ∃y:Vt,v=y.v∧y.Ok w:=by
 obtain⟨cs,rfl,hsz⟩:=okWide_struct hV hv
 obtain⟨fuel,hf⟩:=h
 obtain⟨y,hy,ho⟩:=trod_tree hV ht hI hS hL hR cV cI cS cL cR fuel fuel (Nat.le_refl _) _ _ hf
 refine⟨y,?_,ho⟩
 obtain⟨l⟩:=cs
 simp only[Value.cells]at hy
 rw[hy]
 rfl
end
end Go.Proofs.YtkafjblfjdpdaaaGreatDoor
namespace Go.Proofs.YtkafjblfjdpdaaaGreatDoor
open Go.ChangeShapes Go.WideShapes Go.ChangeAt Go.RowKit
theorem own:ownKnob Tryz.prog.godebug=none:=by kernel_rfl
def tabCells:DataW Unit→Array Value
 | .agg xs=>(xs.filterMap fun
   | .lit (.int k n)=>some (Value.int k n)
   |_=>none).toArray
 |_=> #[]
noncomputable def laidWorld7 (os:Os):World:=
 let w0:=World.holding Tryz.prog os ⟨#[],#[],[]⟩
 let put (h:Array Obj) (g:Nat) (cs:Array Value):Array Obj:=h.modify g fun
  | .cells _ t frozen=> .cells cs t frozen
  |o=>o
 let h1:=put w0.heap 1 (Lib.firstTab.map fun z=>Value.int .u8 z).toArray
 let h2:=put h1 2 ((List.range 16).flatMap fun i=> [Value.int .u8 (Lib.accLo i),Value.int .u8 (Lib.accHi i)]).toArray
 let h3:=put h2 6 (tabCells Rows.laid_math_bits_deBruijn32tab)
 let h4:=put h3 7 (tabCells Rows.laid_math_bits_deBruijn64tab)
 let h5:=put h4 3 (tabCells Rows.laid_internal_strconv_uint64pow10)
 let n:=w0.heap.size
 let h6:=put h5 5 #[.iface 253 (.pointer (some ⟨n,0,none⟩))]
 let h7:=put h6 4 #[.iface 253 (.pointer (some ⟨n+1,0,none⟩))]
 let h8:=h7.push (.cells #[.string ⟨#[118,97,108,117,101,32,111,117,116,32,111,102,32,114,97,110,103,101]⟩] 255 (0,0))
 let h9:=h8.push (.cells #[.string ⟨#[105,110,118,97,108,105,100,32,115,121,110,116,97,120]⟩] 255 (0,0))
 {w0 with heap:=h9}
abbrev seven:List (String×DataW Unit):=[("math/bits.deBruijn32tab",Rows.laid_math_bits_deBruijn32tab),("math/bits.deBruijn64tab",Rows.laid_math_bits_deBruijn64tab),("internal/strconv.uint64pow10",Rows.laid_internal_strconv_uint64pow10),("unicode/utf8.acceptRanges",Rows.laid_unicode_utf8_acceptRanges),("strconv.ErrRange",Rows.laid_strconv_ErrRange),("strconv.ErrSyntax",Rows.laid_strconv_ErrSyntax),("unicode/utf8.first",Rows.laid_unicode_utf8_first)]
set_option maxRecDepth 100000 in
theorem met_seven(os:Os)(args:Array Value):laidMet Tryz.prog seven ((laidWorld7 os).forCall (fun _ _=>0) ⟨#[],args,[]⟩).memory:=
 laidMet_of_run' 8 (by kernel_rfl) (by kernel_rfl)
theorem laid_tail {P:Program} {W:World} {x:String×DataW Unit} {l:List (String×DataW Unit)} {ps:List MemPlace} (h:DataW.LaidVars P W (x::l) ps): ∃qs,DataW.LaidVars P W l qs:=by
 obtain⟨n,d⟩:=x
 obtain⟨_,_,_,_,_,q,_,_,_,_,h,_⟩:=h
 exact⟨q,h⟩
theorem tabIs_of_vars {P:Program} {W:World} {name:String} {k:IntKind} {zs:List Int} {rest:List (String×DataW Unit)} {ps:List MemPlace} {g:Nat} {t e:TypeId} {n:Nat}
 (hg:P.globalNamed name=some g) (hty:(P.globals[g]?).map (·.type)=some t) (ht:P.underlying t=some (.array n e)) (he:P.underlying e=some (.int k)) (hce:P.cellsOf e=1) (hct:P.cellsOf t=n)
 (h:DataW.LaidVars P W ((name,Lib.tabData k zs)::rest) ps):Lib.TabIs P W name k zs:=by
 obtain⟨g',t',cs,fuel,p,q,hg',ht',hvar,hd,_,_⟩:=h
 obtain rfl:=Option.some.inj (hg.symm.trans hg')
 obtain rfl:=Option.some.inj (hty.symm.trans ht')
 unfold Lib.TabIs
 rw[hvar,←Lib.cells_of_tab ht he hce hct hd]
set_option maxRecDepth 100000 in
theorem pow_data:(Rows.laid_internal_strconv_uint64pow10:DataW Unit)=Lib.tabData .u64 Lib.pow10Tab:=by kernel_rfl
theorem pow_of_vars {W:World} {x y:String×DataW Unit} {rest:List (String×DataW Unit)} {ps:List MemPlace} (h:DataW.LaidVars Tryz.prog W (x::y::("internal/strconv.uint64pow10",Rows.laid_internal_strconv_uint64pow10)::rest) ps):
 ∀W',Below W.heap.size W W'→Lib.TabIs Tryz.prog W' "internal/strconv.uint64pow10" .u64 Lib.pow10Tab:=by
 obtain⟨_,h1⟩:=laid_tail h
 obtain⟨_,h2⟩:=laid_tail h1
 rw[pow_data]at h2
 exact Lib.tabBelow_of_tabIs (tabIs_of_vars (n:=20) (e:=212) (t:=232) (g:=3) (by kernel_rfl) (by kernel_rfl) (by kernel_rfl) (by kernel_rfl) (by kernel_rfl) (by kernel_rfl) h2)
theorem err_of_vars {W:World} {d:DataW Unit} {nm:String} {rest:List (String×DataW Unit)} {ps:List MemPlace} (h:DataW.LaidVars Tryz.prog W (("strconv.ErrRange",.iface nm d)::rest) ps):ErrAt W:=by
 obtain⟨g',t',cs,fuel,p,q,hg',ht',hvar,hd,_,_⟩:=h
 obtain rfl:=Option.some.inj ((show Tryz.prog.globalNamed "strconv.ErrRange" =some 5 by kernel_rfl).symm.trans hg')
 obtain rfl:=Option.some.inj ((show(Tryz.prog.globals[5]?).map (·.type)=some 104 by kernel_rfl).symm.trans ht')
 obtain⟨f2,u,v,hcs,_,_⟩:=iface_of_trod Tryz.underlying104 hd
 have hc:=World.var?_cell hg' hvar 0
 have h0:cs[0]?=some (.iface u v):=by rw[←Array.getElem?_toList,hcs];rfl
 rw[h0]at hc
 exact⟨Lib.lt_of_cell hc,u,v,hc⟩
set_option maxRecDepth 100000 in
theorem seven_env {W:World} (hL:laidMetH Tryz.prog seven W):Env W:=by
 have hL':laidMet Tryz.prog seven W:=hL
 have h4:=Lib.laidMet.reads hL' (.tail _ (.tail _ (.tail _ (.head _))))
 have h3:=Lib.laidMet.reads hL' (.tail _ (.tail _ (.tail _ (.tail _ (.tail _ (.tail _ (.head _)))))))
 have e4:(Rows.laid_unicode_utf8_acceptRanges:DataW Unit)=Lib.acceptData:=by kernel_rfl
 have e3:Rows.laid_unicode_utf8_first=Lib.firstData:=Pinned.utf8First_eq
 rw[e4]at h4
 rw[e3]at h3
 have ht:tabs W:=utf8Tabs_of_reads (ρ:=Tryz.lays260_ren) Tryz.lays260 ⟨by kernel_rfl,by kernel_rfl,by kernel_rfl,by kernel_rfl,by kernel_rfl,by kernel_rfl,by kernel_rfl⟩ h3 h4
 obtain⟨ps,h,_⟩:=hL'
 have hp:=pow_of_vars h
 obtain⟨_,h1⟩:=laid_tail h
 obtain⟨_,h2⟩:=laid_tail h1
 obtain⟨_,h3'⟩:=laid_tail h2
 obtain⟨_,h4'⟩:=laid_tail h3'
 exact⟨fun E h0 h1=>itoas_tab E h0 h1 W hp,err_of_vars h4',ht⟩
end Go.Proofs.YtkafjblfjdpdaaaGreatDoor
