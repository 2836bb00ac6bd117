/-
  WALKS: print.items: one, named.
-/
import Derived.Test.YtkafjblfjdpdaaaGreatDoorPrC
import Derived.Test.YtkafjblfjdpdaaaGreatDoorVtNT
namespace Go.Proofs.YtkafjblfjdpdaaaGreatDoor
open Go.RowKit
def memB(ls:Bool)(k x:Bs):Bs:=qtB k++(58::(if ls=true then [32] else []))++x
theorem below_allocP {w0 w:World} (h:Below w0.heap.size w0 w)(o:Obj):Below w0.heap.size w0 (w.alloc o):=h.alloc h.size o
set_option maxHeartbeats 8000000 in
set_option maxRecDepth 1000000 in
theorem pone {w0:World} (b:Nat)(l X:Bs)(ls:Bool)(n:Int)(lev:Int)(k:Int)(t:Bs)(ko:Option Addr)(kc:Nat)(kl:List Bs)(o:Option Addr)(c:Nat)(is:List Vt)(j:Nat)(hj:j<is.length)(w:World)
 (hok:(Vt.mk k t ⟨ko,kc,kl⟩ o c is).Ok w0) (hb:Below w0.heap.size w0 w) (h:Prn w0.heap.size b l ls n w)
 (hC: ∀W,Below w0.heap.size w0 W→Prn w0.heap.size b l ls n W→Calls Tryz.prog 89 #[.pointer (some ⟨b,0,none⟩),is[j].v,.int .i64 lev] W (PrPost w0.heap.size b (l++X) ls n W)):
 Calls Tryz.prog 135 #[.agg #[.pointer (some ⟨b,0,none⟩),.int .i64 k,.string (st t),.slice ko kl.length kc,.slice o is.length c],.int .i64 (j:Int),.int .i64 lev] w (PrPost w0.heap.size b (l++X) ls n w):=by
 have hb0:=below_alloc w (.cells #[.pointer (some ⟨b,0,none⟩),.int .i64 k,.string (st t),.slice ko kl.length kc,.slice o is.length c] 165)
 have HC:=hq (hC _ (below_allocP hb (.cells #[.pointer (some ⟨b,0,none⟩),.int .i64 k,.string (st t),.slice ko kl.length kc,.slice o is.length c] 165)).drew (h.grow hb0.drew))
 have HP:Hq (∀W',PrW w0.heap.size b (l++X) ls n (w.alloc (.cells #[.pointer (some ⟨b,0,none⟩),.int .i64 k,.string (st t),.slice ko kl.length kc,.slice o is.length c] 165)).drew W'→PrPost w0.heap.size b (l++X) ls n w (.returned (.tuple #[])) W'):=hq (fun W' h2=>⟨rfl,h2.after hb0.drew hb.size⟩)
 have hW:=Whole.made w 165 #[.pointer (some ⟨b,0,none⟩),.int .i64 k,.string (st t),.slice ko kl.length kc,.slice o is.length c]
 obtain⟨bi,f,ho,i0,i1,i2,i3⟩:=(hok.grow (below_allocP hb (.cells #[.pointer (some ⟨b,0,none⟩),.int .i64 k,.string (st t),.slice ko kl.length kc,.slice o is.length c] 165))).at_ j hj
 have x0:=hW.at_ 0
 have x4:=hW.at_ 4
 have hz:(j:Int)<(is.length:Int):=by omega
 generalize PrPost w0.heap.size b (l++X) ls n w=PP at *
 subst ho
 clear hC hok hb h hb0 hW
 generalize is[j]=x at *
 go_enter Tryz.func135,Tryz.ntmps135
 go_wp2_with fail
 generalize w.heap.size=g at *
 generalize (w.alloc (.cells #[.pointer (some ⟨b,0,none⟩),.int .i64 k,.string (st t),.slice ko kl.length kc,.slice (some ⟨bi,f,none⟩) is.length c] 165))=V0 at *
 go_region_with (go_at_call 89;refine HC.o.mono ?_;rintro e w2 ⟨rfl,h2⟩;have HV:=hq (HP.o _ h2))
 all_goals (go_wp2_with fail;first|exact HV.o|(go_end0;exact HV.o))
def NmI(B b:Nat)(ls:Bool)(n:Int)(w:World)(g:Nat)(cs:Array Value)(l:Bs)(W:World):Prop:=PrW B b l ls n w W∧Whole W g 165 cs
theorem NmI.step {B b g:Nat} {ls:Bool} {n:Int} {w W W':World} {cs:Array Value} {l l':Bs} (h:NmI B b ls n w g cs l W)(hg:b≠g)(h2:PrW B b l' ls n W W'):NmI B b ls n w g cs l' W':=
 ⟨h.1.trans h2,h2.2.2 g _ h.2 (by simpa using fun e=>hg e.symm) (fun c fz e=>absurd (Obj.cells.inj e).2.1 (by decide))⟩
theorem five_at {w:World} {g:Nat} {T:TypeId} {a b c d e:Value} (h:Whole w g T #[a,b,c,d,e]):w.cell? ⟨g,0,none⟩=some a∧w.cell? ⟨g,1,none⟩=some b∧w.cell? ⟨g,2,none⟩=some c∧w.cell? ⟨g,3,none⟩=some d∧w.cell? ⟨g,4,none⟩=some e:=⟨h.at_ 0,h.at_ 1,h.at_ 2,h.at_ 3,h.at_ 4⟩
set_option maxHeartbeats 8000000 in
set_option maxRecDepth 1000000 in
theorem pnamed {w0:World} (b:Nat)(l X:Bs)(ls:Bool)(n:Int)(lev:Int)(k:Int)(t:Bs)(ko:Option Addr)(kc:Nat)(kl:List Bs)(o:Option Addr)(c:Nat)(is:List Vt)(j:Nat)(hj:j<is.length)(hjk:j<kl.length)(w:World)
 (hok:(Vt.mk k t ⟨ko,kc,kl⟩ o c is).Ok w0) (hT:tabs w0) (hb:Below w0.heap.size w0 w) (h:Prn w0.heap.size b l ls n w) (hkt:kl[j].length≤1099511627776) (hl:l.length+(memB ls kl[j] X).length≤140737488355328)
 (hC: ∀l' W,Below w0.heap.size w0 W→Prn w0.heap.size b l' ls n W→l'.length+X.length≤140737488355328→Calls Tryz.prog 89 #[.pointer (some ⟨b,0,none⟩),is[j].v,.int .i64 lev] W (PrPost w0.heap.size b (l'++X) ls n W)):
 Calls Tryz.prog 136 #[.agg #[.pointer (some ⟨b,0,none⟩),.int .i64 k,.string (st t),.slice ko kl.length kc,.slice o is.length c],.int .i64 (j:Int),.int .i64 lev] w (PrPost w0.heap.size b (l++memB ls kl[j] X) ls n w):=by
 have hb0:=below_alloc w (.cells #[.pointer (some ⟨b,0,none⟩),.int .i64 k,.string (st t),.slice ko kl.length kc,.slice o is.length c] 165)
 have hbV:=below_allocP hb (.cells #[.pointer (some ⟨b,0,none⟩),.int .i64 k,.string (st t),.slice ko kl.length kc,.slice o is.length c] 165)
 have hne:b≠w.heap.size:=by have:=h.lt.2;omega
 have hW:=Whole.made w 165 #[.pointer (some ⟨b,0,none⟩),.int .i64 k,.string (st t),.slice ko kl.length kc,.slice o is.length c]
 have hq1:(qtB kl[j]).length+(1+(if ls=true then 1 else 0))+X.length=(memB ls kl[j] X).length:=by unfold memB;cases ls<;>simp<;>omega
 have HN0:NmI w0.heap.size b ls n w w.heap.size #[.pointer (some ⟨b,0,none⟩),.int .i64 k,.string (st t),.slice ko kl.length kc,.slice o is.length c] l (w.alloc (.cells #[.pointer (some ⟨b,0,none⟩),.int .i64 k,.string (st t),.slice ko kl.length kc,.slice o is.length c] 165)):=⟨(PrW.none (h.grow hb0)).after hb0 hb.size,hW⟩
 obtain⟨bk,fk,hko,k0⟩:=(hok.hks.rd.grow hbV) j hjk
 obtain⟨y0,y1,y2,y3,y4⟩:=five_at hW
 have hz:(j:Int)<(kl.length:Int):=by omega
 subst hko
 obtain⟨V0,hV0⟩: ∃V,w.alloc (.cells #[Value.pointer (some ⟨b,0,none⟩),.int .i64 k,.string (st t),.slice (some ⟨bk,fk,none⟩) kl.length kc,.slice o is.length c] 165)=V:=⟨_,rfl⟩
 rw[hV0]at HN0 hbV k0 y0 y1 y2 y3 y4
 obtain⟨cs,hcs⟩: ∃cs,#[Value.pointer (some ⟨b,0,none⟩),.int .i64 k,.string (st t),.slice (some ⟨bk,fk,none⟩) kl.length kc,.slice o is.length c]=cs:=⟨_,rfl⟩
 rw[hcs]at HN0
 have HND:NmI w0.heap.size b ls n w w.heap.size cs l V0.drew:=⟨HN0.1.grow (Below.refl _ _).drew hbV.size,HN0.2.grow (Below.refl _ _).drew⟩
 have HST: ∀ {l':Bs} {W W':World} {l'':Bs},NmI w0.heap.size b ls n w w.heap.size cs l' W→PrW w0.heap.size b l'' ls n W W'→NmI w0.heap.size b ls n w w.heap.size cs l'' W':=fun h1 h2=>h1.step hne h2
 have HQ:Hq (Calls Tryz.prog 133 #[.pointer (some ⟨b,0,none⟩),.string (st kl[j])] V0.drew fun e W=>e= .returned (.tuple #[])∧NmI w0.heap.size b ls n w w.heap.size cs (l++qtB kl[j]) W):=hq ((pquoted w0.heap.size b l kl[j] ls n V0.drew (tabs_below hT hbV.drew (tabs_size hT).1 (tabs_size hT).2) HND.1.1 hkt (by omega) hbV.size).mono (fun e W hh=>⟨hh.1,HST HND hh.2⟩))
 have HB:Hq (∀(l':Bs) (ch:UInt8) W,NmI w0.heap.size b ls n w w.heap.size cs l' W→l'.length+1≤140737488355328→Calls Tryz.prog 99 #[.pointer (some ⟨b,0,none⟩),.int .u8 (ch.toNat:Int)] W fun e W'=>e= .returned .nilIface∧NmI w0.heap.size b ls n w w.heap.size cs (l'++[ch]) W'):=hq (fun l' ch W h1 h2=>(pbyte w0.heap.size b l' ls n ch W h1.1.1 h2 (Nat.le_trans hb.size h1.1.2.1.size)).mono (fun e W' hh=>⟨hh.1,HST h1 hh.2⟩))
 have HO:Hq (∀(l':Bs) W,NmI w0.heap.size b ls n w w.heap.size cs l' W→l'.length+X.length≤140737488355328→Calls Tryz.prog 135 #[.agg #[.pointer (some ⟨b,0,none⟩),.int .i64 k,.string (st t),.slice (some ⟨bk,fk,none⟩) kl.length kc,.slice o is.length c],.int .i64 (j:Int),.int .i64 lev] W fun e W'=>e= .returned (.tuple #[])∧PrW w0.heap.size b (l'++X) ls n w W'):=hq (fun l' W h1 h2=>(pone b l' X ls n lev k t _ kc kl o c is j hj W hok (hb.trans h1.1.2.1) h1.1.1 (fun W' hb' hp'=>hC l' W' hb' hp' h2)).mono (fun e W' hh=>⟨hh.1,h1.1.trans hh.2⟩))
 have HP:Hq (∀(q:Bs) W',q=l++memB ls kl[j] X→PrW w0.heap.size b q ls n w W'→PrPost w0.heap.size b (l++memB ls kl[j] X) ls n w (.returned (.tuple #[])) W'):=hq (fun q W' he h2=>⟨rfl,he▸h2⟩)
 have HCL:Hq (∀l' W,NmI w0.heap.size b ls n w w.heap.size cs l' W→W.cell? ⟨b,2,none⟩=some (.bool ls)):=hq (fun l' W h1=>h1.1.1.cells.1)
 have HFV:Hq (∀l' W,NmI w0.heap.size b ls n w w.heap.size cs l' W→W.cell? ⟨w.heap.size,0,none⟩=some (.pointer (some ⟨b,0,none⟩))∧W.cell? ⟨w.heap.size,1,none⟩=some (.int .i64 k)∧W.cell? ⟨w.heap.size,2,none⟩=some (.string (st t))∧W.cell? ⟨w.heap.size,3,none⟩=some (.slice (some ⟨bk,fk,none⟩) kl.length kc)∧W.cell? ⟨w.heap.size,4,none⟩=some (.slice o is.length c)):=hq (fun l' W h1=>five_at (hcs▸h1.2))
 have HL:=hq (And.intro hl hq1)
 have HME:Hq (memB ls kl[j] X=qtB kl[j]++(58::(if ls=true then [32] else []))++X):=hq rfl
 generalize PrPost w0.heap.size b (l++memB ls kl[j] X) ls n w=PP at *
 generalize memB ls kl[j] X=MB at *
 clear hok hT hb h hC hb0 hbV hW HN0 HND HST hl hq1 hcs hj hkt
 generalize qtB kl[j]=Q at *
 generalize kl[j]=K at *
 go_enter Tryz.func136,Tryz.ntmps136
 go_wp2_with fail
 clear hV0
 generalize w.heap.size=g at *
 go_region_with (go_at_call 133;refine HQ.o.mono ?_;rintro e w2 ⟨rfl,h2⟩;have H2:=hq h2;clear h2)
 all_goals
  have HB1:=hq (HB.o _ 58 _ H2.o (by have h1:=HL.o.1;have h2:=HL.o.2;simp only[List.length_append];omega))
  obtain⟨z0,z1,z2,z3,z4⟩:=HFV.o _ _ H2.o
  clear HQ H2
  go_wp2_with fail
  refine HB1.o.mono ?_
  rintro e w3 ⟨rfl,h3⟩
  have H3:=hq h3
  have c2:=HCL.o _ _ h3
  clear h3 HB1 z0 z1 z2 z3 z4
  obtain⟨z0,z1,z2,z3,z4⟩:=HFV.o _ _ H3.o
  cases ls with
  |false=>
   have HO1:=hq (HO.o (l++Q++[58]) _ H3.o (by have h1:=HL.o.1;have h2:=HL.o.2;simp only[List.length_append,List.length_singleton];omega))
   have HP1:=hq (fun W'=>HP.o (l++Q++[58]++X) W' (by rw[HME.o];simp))
   clear HO HP HB HL HME HCL HFV H3
   go_wp2_with fail
   refine HO1.o.mono ?_
   rintro e w4 ⟨rfl,h4⟩
   have HV:=hq (HP1.o w4 h4)
   clear HO1 HP1 h4
   go_wp2_with fail
   first
    |exact HV.o
    |(go_end0
      exact HV.o)
  |true=>
   have HB1:=hq (HB.o _ 32 _ H3.o (by have h1:=HL.o.1;have h2:=HL.o.2;simp only[List.length_append,List.length_singleton];simp only[if_true]at h2;omega))
   have HO1:=hq (fun W hW=>HO.o (l++Q++[58]++[32]) W hW (by have h1:=HL.o.1;have h2:=HL.o.2;simp only[List.length_append,List.length_singleton];simp only[if_true]at h2;omega))
   have HP1:=hq (fun W'=>HP.o (l++Q++[58]++[32]++X) W' (by rw[HME.o];simp))
   clear HO HP HB HL HME HCL H3
   go_wp2_with fail
   refine HB1.o.mono ?_
   rintro e w5 ⟨rfl,h5⟩
   have HO2:=hq (HO1.o w5 h5)
   clear z0 z1 z2 z3 z4 c2
   obtain⟨z0,z1,z2,z3,z4⟩:=HFV.o _ _ h5
   clear HB1 HO1 h5 HFV
   go_wp2_with fail
   refine HO2.o.mono ?_
   rintro e w4 ⟨rfl,h4⟩
   have HV:=hq (HP1.o w4 h4)
   clear HO2 HP1 h4
   go_wp2_with fail
   first
    |exact HV.o
    |(go_end0
      exact HV.o)
end Go.Proofs.YtkafjblfjdpdaaaGreatDoor
