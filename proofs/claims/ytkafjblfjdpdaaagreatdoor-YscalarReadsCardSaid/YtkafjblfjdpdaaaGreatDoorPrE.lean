/-
  WALKS: print.items: one, named.
  WALK: print.printer's value: what it writes of a tree.
-/
import Derived.Test.YtkafjblfjdpdaaaGreatDoorPrC
import Derived.Test.YtkafjblfjdpdaaaGreatDoorVtNT
set_option maxHeartbeats 8000000
set_option maxRecDepth 1000000
namespace Go.Proofs.YtkafjblfjdpdaaaGreatDoor
open Go.RowKit
def memB(ls:Bool)(k x:Bs):Bs:=qtB k++(58::(if ls=true then [32] else []))++x
theorem zt5 {w0 w:World} (h:Below w0.heap.size w0 w)(o:Obj):Below w0.heap.size w0 (w.alloc o):=h.alloc h.size o
theorem pone {w0:World} (b:Nat)(l X:Bs)(ls:Bool)(n:Int)(lev:Int)(k:Int)(t:Bs)(ko:Option Addr)(kc:Nat)(kl:List Bs)(o:Option Addr)(c:Nat)(is:List Vt)(j:Nat)(hj:j<is.length)(w:World)
 (hok:(Vt.mk k t ⟨ko,kc,kl⟩ o c is).Ok w0) (hb:Below w0.heap.size w0 w) (h:Prn w0.heap.size b l ls n w)
 (hC: ∀W,Below w0.heap.size w0 W->Prn w0.heap.size b l ls n W->Calls Tryz.prog 89 #[.pointer (some ⟨b,0,none⟩),is[j].v,.int .i64 lev] W (zf6 w0.heap.size b (l++X) ls n W)):
 Calls Tryz.prog 135 #[.agg #[.pointer (some ⟨b,0,none⟩),.int .i64 k,.string (st t),.slice ko kl.length kc,.slice o is.length c],.int .i64 (j:Int),.int .i64 lev] w (zf6 w0.heap.size b (l++X) ls n w):=by
 have hb0:=za0 w (.cells #[.pointer (some ⟨b,0,none⟩),.int .i64 k,.string (st t),.slice ko kl.length kc,.slice o is.length c] 165);have HC:=hq (hC _ (zt5 hb (.cells #[.pointer (some ⟨b,0,none⟩),.int .i64 k,.string (st t),.slice ko kl.length kc,.slice o is.length c] 165)).drew (h.grow hb0.drew));have HP:Hq (∀W',PrW w0.heap.size b (l++X) ls n (w.alloc (.cells #[.pointer (some ⟨b,0,none⟩),.int .i64 k,.string (st t),.slice ko kl.length kc,.slice o is.length c] 165)).drew W'->zf6 w0.heap.size b (l++X) ls n w (.returned (.tuple #[])) W'):=hq (fun W' h2=>⟨rfl,h2.after hb0.drew hb.size⟩);have hW:=Whole.made w 165 #[.pointer (some ⟨b,0,none⟩),.int .i64 k,.string (st t),.slice ko kl.length kc,.slice o is.length c];obtain⟨bi,f,ho,i0,i1,i2,i3⟩:=(hok.grow (zt5 hb (.cells #[.pointer (some ⟨b,0,none⟩),.int .i64 k,.string (st t),.slice ko kl.length kc,.slice o is.length c] 165))).at_ j hj;have x0:=hW.at_ 0;have x4:=hW.at_ 4;have hz:(j:Int)<(is.length:Int):=by omega
 generalize zf6 w0.heap.size b (l++X) ls n w=PP at *;subst ho;clear hC hok hb h hb0 hW;generalize is[j]=x at *;go_enter Tryz.func135,Tryz.ntmps135
 go_wp2_with fail
 generalize w.heap.size=g at *;generalize (w.alloc (.cells #[.pointer (some ⟨b,0,none⟩),.int .i64 k,.string (st t),.slice ko kl.length kc,.slice (some ⟨bi,f,none⟩) is.length c] 165))=V0 at *
 go_region_with (go_at_call 89;refine HC.o.mono ?_;rintro e w2 ⟨rfl,h2⟩;have HV:=hq (HP.o _ h2))
 all_goals (go_wp2_with fail;first|exact HV.o|(go_end0;exact HV.o))
def NmI(B b:Nat)(ls:Bool)(n:Int)(w:World)(g:Nat)(cs:Array Value)(l:Bs)(W:World):Prop:=PrW B b l ls n w W/\Whole W g 165 cs
theorem NmI.step {B b g:Nat} {ls:Bool} {n:Int} {w W W':World} {cs:Array Value} {l l':Bs} (h:NmI B b ls n w g cs l W)(hg:b≠g)(h2:PrW B b l' ls n W W'):NmI B b ls n w g cs l' W':=
 ⟨h.1.trans h2,h2.2.2 g _ h.2 (by simpa using fun e=>hg e.symm) (fun c fz e=>absurd (Obj.cells.inj e).2.1 (by decide))⟩
theorem five_at {w:World} {g:Nat} {T:TypeId} {a b c d e:Value} (h:Whole w g T #[a,b,c,d,e]):w.cell? ⟨g,0,none⟩=some a/\w.cell? ⟨g,1,none⟩=some b/\w.cell? ⟨g,2,none⟩=some c/\w.cell? ⟨g,3,none⟩=some d/\w.cell? ⟨g,4,none⟩=some e:=⟨h.at_ 0,h.at_ 1,h.at_ 2,h.at_ 3,h.at_ 4⟩
theorem pnamed {w0:World} (b:Nat)(l X:Bs)(ls:Bool)(n:Int)(lev:Int)(k:Int)(t:Bs)(ko:Option Addr)(kc:Nat)(kl:List Bs)(o:Option Addr)(c:Nat)(is:List Vt)(j:Nat)(hj:j<is.length)(hjk:j<kl.length)(w:World)
 (hok:(Vt.mk k t ⟨ko,kc,kl⟩ o c is).Ok w0) (hT:tabs w0) (hb:Below w0.heap.size w0 w) (h:Prn w0.heap.size b l ls n w) (hkt:kl[j].length<=1099511627776) (hl:l.length+(memB ls kl[j] X).length<=140737488355328)
 (hC: ∀l' W,Below w0.heap.size w0 W->Prn w0.heap.size b l' ls n W->l'.length+X.length<=140737488355328->Calls Tryz.prog 89 #[.pointer (some ⟨b,0,none⟩),is[j].v,.int .i64 lev] W (zf6 w0.heap.size b (l'++X) ls n W)):
 Calls Tryz.prog 136 #[.agg #[.pointer (some ⟨b,0,none⟩),.int .i64 k,.string (st t),.slice ko kl.length kc,.slice o is.length c],.int .i64 (j:Int),.int .i64 lev] w (zf6 w0.heap.size b (l++memB ls kl[j] X) ls n w):=by
 have hb0:=za0 w (.cells #[.pointer (some ⟨b,0,none⟩),.int .i64 k,.string (st t),.slice ko kl.length kc,.slice o is.length c] 165);have hbV:=zt5 hb (.cells #[.pointer (some ⟨b,0,none⟩),.int .i64 k,.string (st t),.slice ko kl.length kc,.slice o is.length c] 165);have hne:b≠w.heap.size:=by have:=h.lt.2;omega
 have hW:=Whole.made w 165 #[.pointer (some ⟨b,0,none⟩),.int .i64 k,.string (st t),.slice ko kl.length kc,.slice o is.length c];have hq1:(qtB kl[j]).length+(1+(if ls=true then 1 else 0))+X.length=(memB ls kl[j] X).length:=by unfold memB;cases ls<;>simp<;>omega
 have HN0:NmI w0.heap.size b ls n w w.heap.size #[.pointer (some ⟨b,0,none⟩),.int .i64 k,.string (st t),.slice ko kl.length kc,.slice o is.length c] l (w.alloc (.cells #[.pointer (some ⟨b,0,none⟩),.int .i64 k,.string (st t),.slice ko kl.length kc,.slice o is.length c] 165)):=⟨(PrW.none (h.grow hb0)).after hb0 hb.size,hW⟩;obtain⟨bk,fk,hko,k0⟩:=(hok.hks.rd.grow hbV) j hjk;obtain⟨y0,y1,y2,y3,y4⟩:=five_at hW;have hz:(j:Int)<(kl.length:Int):=by omega
 subst hko;obtain⟨V0,hV0⟩: ∃V,w.alloc (.cells #[Value.pointer (some ⟨b,0,none⟩),.int .i64 k,.string (st t),.slice (some ⟨bk,fk,none⟩) kl.length kc,.slice o is.length c] 165)=V:=⟨_,rfl⟩;rw[hV0]at HN0 hbV k0 y0 y1 y2 y3 y4;obtain⟨cs,hcs⟩: ∃cs,#[Value.pointer (some ⟨b,0,none⟩),.int .i64 k,.string (st t),.slice (some ⟨bk,fk,none⟩) kl.length kc,.slice o is.length c]=cs:=⟨_,rfl⟩;rw[hcs]at HN0;have HND:NmI w0.heap.size b ls n w w.heap.size cs l V0.drew:=⟨HN0.1.grow (Below.refl _ _).drew hbV.size,HN0.2.grow (Below.refl _ _).drew⟩;have HST: ∀ {l':Bs} {W W':World} {l'':Bs},NmI w0.heap.size b ls n w w.heap.size cs l' W->PrW w0.heap.size b l'' ls n W W'->NmI w0.heap.size b ls n w w.heap.size cs l'' W':=fun h1 h2=>h1.step hne h2
 have HQ:Hq (Calls Tryz.prog 133 #[.pointer (some ⟨b,0,none⟩),.string (st kl[j])] V0.drew fun e W=>e= .returned (.tuple #[])/\NmI w0.heap.size b ls n w w.heap.size cs (l++qtB kl[j]) W):=hq ((pquoted w0.heap.size b l kl[j] ls n V0.drew (zp9 hT hbV.drew (zm5 hT).1 (zm5 hT).2) HND.1.1 hkt (by omega) hbV.size).mono (fun e W hh=>⟨hh.1,HST HND hh.2⟩));have HB:Hq (∀(l':Bs) (ch:UInt8) W,NmI w0.heap.size b ls n w w.heap.size cs l' W->l'.length+1<=140737488355328->Calls Tryz.prog 99 #[.pointer (some ⟨b,0,none⟩),.int .u8 (ch.toNat:Int)] W fun e W'=>e= .returned .nilIface/\NmI w0.heap.size b ls n w w.heap.size cs (l'++[ch]) W'):=hq (fun l' ch W h1 h2=>(pbyte w0.heap.size b l' ls n ch W h1.1.1 h2 (Nat.le_trans hb.size h1.1.2.1.size)).mono (fun e W' hh=>⟨hh.1,HST h1 hh.2⟩));have HO:Hq (∀(l':Bs) W,NmI w0.heap.size b ls n w w.heap.size cs l' W->l'.length+X.length<=140737488355328->Calls Tryz.prog 135 #[.agg #[.pointer (some ⟨b,0,none⟩),.int .i64 k,.string (st t),.slice (some ⟨bk,fk,none⟩) kl.length kc,.slice o is.length c],.int .i64 (j:Int),.int .i64 lev] W fun e W'=>e= .returned (.tuple #[])/\PrW w0.heap.size b (l'++X) ls n w W'):=hq (fun l' W h1 h2=>(pone b l' X ls n lev k t _ kc kl o c is j hj W hok (hb.trans h1.1.2.1) h1.1.1 (fun W' hb' hp'=>hC l' W' hb' hp' h2)).mono (fun e W' hh=>⟨hh.1,h1.1.trans hh.2⟩));have HP:Hq (∀(q:Bs) W',q=l++memB ls kl[j] X->PrW w0.heap.size b q ls n w W'->zf6 w0.heap.size b (l++memB ls kl[j] X) ls n w (.returned (.tuple #[])) W'):=hq (fun q W' he h2=>⟨rfl,he▸h2⟩);have HCL:Hq (∀l' W,NmI w0.heap.size b ls n w w.heap.size cs l' W->W.cell? ⟨b,2,none⟩=some (.bool ls)):=hq (fun l' W h1=>h1.1.1.cells.1);have HFV:Hq (∀l' W,NmI w0.heap.size b ls n w w.heap.size cs l' W->W.cell? ⟨w.heap.size,0,none⟩=some (.pointer (some ⟨b,0,none⟩))/\W.cell? ⟨w.heap.size,1,none⟩=some (.int .i64 k)/\W.cell? ⟨w.heap.size,2,none⟩=some (.string (st t))/\W.cell? ⟨w.heap.size,3,none⟩=some (.slice (some ⟨bk,fk,none⟩) kl.length kc)/\W.cell? ⟨w.heap.size,4,none⟩=some (.slice o is.length c)):=hq (fun l' W h1=>five_at (hcs▸h1.2));have HL:=hq (And.intro hl hq1);have HME:Hq (memB ls kl[j] X=qtB kl[j]++(58::(if ls=true then [32] else []))++X):=hq rfl;generalize zf6 w0.heap.size b (l++memB ls kl[j] X) ls n w=PP at *;generalize memB ls kl[j] X=MB at *;clear hok hT hb h hC hb0 hbV hW HN0 HND HST hl hq1 hcs hj hkt;generalize qtB kl[j]=Q at *;generalize kl[j]=K at *;go_enter Tryz.func136,Tryz.ntmps136
 go_wp2_with fail
 clear hV0;generalize w.heap.size=g at *
 go_region_with (go_at_call 133;refine HQ.o.mono ?_;rintro e w2 ⟨rfl,h2⟩;have H2:=hq h2;clear h2)
 all_goals
  have HB1:=hq (HB.o _ 58 _ H2.o (by have h1:=HL.o.1;have h2:=HL.o.2;simp only[List.length_append];omega));obtain⟨z0,z1,z2,z3,z4⟩:=HFV.o _ _ H2.o;clear HQ H2;go_wp2_with fail
  refine HB1.o.mono ?_;rintro e w3 ⟨rfl,h3⟩;have H3:=hq h3;have c2:=HCL.o _ _ h3;clear h3 HB1 z0 z1 z2 z3 z4;obtain⟨z0,z1,z2,z3,z4⟩:=HFV.o _ _ H3.o;cases ls with
  |false=>
   have HO1:=hq (HO.o (l++Q++[58]) _ H3.o (by have h1:=HL.o.1;have h2:=HL.o.2;simp only[List.length_append,List.length_singleton];omega));have HP1:=hq (fun W'=>HP.o (l++Q++[58]++X) W' (by rw[HME.o];simp));clear HO HP HB HL HME HCL HFV H3;go_wp2_with fail
   refine HO1.o.mono ?_;rintro e w4 ⟨rfl,h4⟩;have HV:=hq (HP1.o w4 h4);clear HO1 HP1 h4;go_wp2_with fail
   first
    |exact HV.o
    |(go_end0
      exact HV.o)
  |true=>
   have HB1:=hq (HB.o _ 32 _ H3.o (by have h1:=HL.o.1;have h2:=HL.o.2;simp only[List.length_append,List.length_singleton];simp only[if_true]at h2;omega));have HO1:=hq (fun W hW=>HO.o (l++Q++[58]++[32]) W hW (by have h1:=HL.o.1;have h2:=HL.o.2;simp only[List.length_append,List.length_singleton];simp only[if_true]at h2;omega));have HP1:=hq (fun W'=>HP.o (l++Q++[58]++[32]++X) W' (by rw[HME.o];simp));clear HO HP HB HL HME HCL H3;go_wp2_with fail
   refine HB1.o.mono ?_;rintro e w5 ⟨rfl,h5⟩;have HO2:=hq (HO1.o w5 h5);clear z0 z1 z2 z3 z4 c2;obtain⟨z0,z1,z2,z3,z4⟩:=HFV.o _ _ h5;clear HB1 HO1 h5 HFV;go_wp2_with fail
   refine HO2.o.mono ?_;rintro e w4 ⟨rfl,h4⟩;have HV:=hq (HP1.o w4 h4);clear HO2 HP1 h4;go_wp2_with fail
   first
    |exact HV.o
    |(go_end0
      exact HV.o)
mutual
def prB(ls:Bool)(n:Nat):Nat->Vl->Bs
 |lev,.mk k t ks is=>
  if k=1 then [110,117,108,108] else if k=4 then qtB t else if k=5 then zk7 ls n lev 91 93 (prBs ls n (lev+1) is)
  else if k=6 then zk7 ls n lev 123 125 (List.zipWith (memB ls) ks (prBs ls n (lev+1) is)) else t
def prBs(ls:Bool)(n:Nat):Nat->List Vl->List Bs
 |_,[]=> []
 |lev,x::r=>prB ls n lev x::prBs ls n lev r
end
theorem prBs_map(ls:Bool)(n lev:Nat): ∀l:List Vl,prBs ls n lev l=l.map (prB ls n lev)
 | []=>rfl
 |x::l=>by simp only[prBs,List.map_cons,prBs_map ls n lev l]
theorem prB_mk(ls:Bool)(n lev:Nat)(k:Int)(t:Bs)(ks:List Bs)(is:List Vl):prB ls n lev (.mk k t ks is)=
 if k=1 then [110,117,108,108] else if k=4 then qtB t else if k=5 then zk7 ls n lev 91 93 (is.map (prB ls n (lev+1)))
 else if k=6 then zk7 ls n lev 123 125 (List.zipWith (memB ls) ks (is.map (prB ls n (lev+1)))) else t:=by
 simp only[prB,prBs_map]
def PrOk(v:Vl):Prop:=(v.k=6->v.ks.length=v.is.length)/\v.t.length<=1099511627776/\ ∀x∈v.ks,x.length<=1099511627776
theorem enter_one(args:Array Value)(w:World):(callFunc 135 args).run Tryz.prog w= .ok (.enter 135 args) w:=by kernel_rfl
theorem enter_named(args:Array Value)(w:World):(callFunc 136 args).run Tryz.prog w= .ok (.enter 136 args) w:=by kernel_rfl
theorem pvalue {w0:World} (b:Nat)(ls:Bool)(n:Nat)(hn:n<=1000)(hT:tabs w0): ∀(x:Vt) (l:Bs) (lev:Nat) (w:World),x.Ok w0->x.m.All PrOk->Below w0.heap.size w0 w->Prn w0.heap.size b l ls (n:Int) w->lev+x.m.depth<=999999->l.length+(prB ls n lev x.m).length<=140737488355328->
 Calls Tryz.prog 89 #[.pointer (some ⟨b,0,none⟩),x.v,.int .i64 (lev:Int)] w (zf6 w0.heap.size b (l++prB ls n lev x.m) ls (n:Int) w):=Vt.ind (fun k t ks o c is ih l lev w hok hal hb h hd hl=>by
 obtain⟨ko,kc,kl⟩:=ks;have hok':=hok;have hil:=hok.hl;have hic:=hok.hc;have hk:=hok.hk;unfold maxLen at hic;rw[Vt.m_mk]at *;rw[Vt.v_mk']at *;simp only at *;obtain⟨hky,htx,hkx⟩:=hal.here;simp only[Vl.k,Vl.t,Vl.ks,Vl.is,List.length_map]at hky htx hkx;have hali:=Vl.All.items hal;simp only[Vl.depth]at hd;have hgr: ∀W,Below w.heap.size w W->Below w0.heap.size w0 W:=fun W hW=>hb.trans (hW.mono hb.size)
 have hd1:((lev+1:Nat):Int)=(lev:Int)+1:=by omega
 have hlev:lev<=999998:=by omega
 have HIH: ∀(j:Nat) (hj:j<is.length) (l':Bs) (W:World),Below w0.heap.size w0 W->Prn w0.heap.size b l' ls (n:Int) W->l'.length+(prB ls n (lev+1) is[j].m).length<=140737488355328->Calls Tryz.prog 89 #[.pointer (some ⟨b,0,none⟩),is[j].v,.int .i64 ((lev:Int)+1)] W (zf6 w0.heap.size b (l'++prB ls n (lev+1) is[j].m) ls (n:Int) W):=fun j hj l' W h1 h2 h3=>by
  have hm:is[j]∈is:=List.getElem_mem hj;have:=ih is[j] hm l' (lev+1) W (hok'.item j hj) (hali _ (List.mem_map.2 ⟨_,hm,rfl⟩)) h1 h2 (by have:=Vl.depths_le is[j].m (List.mem_map.2 ⟨_,hm,rfl⟩);omega) h3;rwa [hd1]at this
 have HS:=hq (fun (t':Bs) W (hW:Below w.heap.size w W) (h1:l.length+t'.length<=140737488355328)=>(zO8 w0.heap.size b l t' ls (n:Int) W (h.grow hW) h1 (hgr W hW).size).mono (fun e W' hh=>(⟨hh.1,hh.2.after hW hb.size⟩:(∃m,e=Ending.returned (.tuple #[.int .i64 m,.nilIface]))/\PrW w0.heap.size b (l++t') ls (n:Int) w W')));have HQ:Hq (∀W,Below w.heap.size w W->l.length+(qtB t).length<=140737488355328->Calls Tryz.prog 133 #[.pointer (some ⟨b,0,none⟩),.string (st t)] W (zf6 w0.heap.size b (l++qtB t) ls (n:Int) w)):=hq (fun W hW h1=>(pquoted w0.heap.size b l t ls (n:Int) W (zp9 hT (hgr W hW) (zm5 hT).1 (zm5 hT).2) (h.grow hW) htx h1 (hgr W hW).size).mono (fun e W' hh=>⟨hh.1,hh.2.after hW hb.size⟩));have HL5:Hq (∀W,Below w.heap.size w W->l.length+(zk7 ls n lev 91 93 ((is.map Vt.m).map (prB ls n (lev+1)))).length<=140737488355328->Calls Tryz.prog 134 #[.pointer (some ⟨b,0,none⟩),.string (st [91]),.string (st [93]),.int .i64 (is.length:Int),.int .i64 (lev:Int),.func (.func 135) #[.agg #[.pointer (some ⟨b,0,none⟩),.int .i64 k,.string (st t),.slice ko kl.length kc,.slice o is.length c]] #[]] W (zf6 w0.heap.size b (l++zk7 ls n lev 91 93 ((is.map Vt.m).map (prB ls n (lev+1)))) ls (n:Int) w)):=hq (fun W hW h1=>by
  have:=plist (w0:=w0) b l ls n lev 91 93 ((is.map Vt.m).map (prB ls n (lev+1))) 135 (.agg #[.pointer (some ⟨b,0,none⟩),.int .i64 k,.string (st t),.slice ko kl.length kc,.slice o is.length c]) W enter_one (fun j hj l' W' h2 h3 h4=>by
   have hj':j<is.length:=by simpa using hj
   have e1:((is.map Vt.m).map (prB ls n (lev+1)))[j]=prB ls n (lev+1) is[j].m:=by simp
   rw[e1]at h4 ⊢;exact pone b l' _ ls (n:Int) ((lev:Int)+1) k t ko kc kl o c is j hj' W' hok' h2 h3 (fun W'' h5 h6=>HIH j hj' l' W'' h5 h6 h4)) (hgr W hW) (h.grow hW) hn (by omega) (by simp;omega) h1
  rw[List.length_map,List.length_map]at this;exact this.mono (fun e W' hh=>⟨hh.1,hh.2.after hW hb.size⟩))
 have HL6:Hq (∀W,k=6->Below w.heap.size w W->l.length+(zk7 ls n lev 123 125 (List.zipWith (memB ls) kl ((is.map Vt.m).map (prB ls n (lev+1))))).length<=140737488355328->Calls Tryz.prog 134 #[.pointer (some ⟨b,0,none⟩),.string (st [123]),.string (st [125]),.int .i64 (is.length:Int),.int .i64 (lev:Int),.func (.func 136) #[.agg #[.pointer (some ⟨b,0,none⟩),.int .i64 k,.string (st t),.slice ko kl.length kc,.slice o is.length c]] #[]] W (zf6 w0.heap.size b (l++zk7 ls n lev 123 125 (List.zipWith (memB ls) kl ((is.map Vt.m).map (prB ls n (lev+1))))) ls (n:Int) w)):=hq (fun W hk6 hW h1=>by
  have hkl:=hky hk6;have hzl:(List.zipWith (memB ls) kl ((is.map Vt.m).map (prB ls n (lev+1)))).length=is.length:=by simp;omega
  have:=plist (w0:=w0) b l ls n lev 123 125 (List.zipWith (memB ls) kl ((is.map Vt.m).map (prB ls n (lev+1)))) 136 (.agg #[.pointer (some ⟨b,0,none⟩),.int .i64 k,.string (st t),.slice ko kl.length kc,.slice o is.length c]) W enter_named (fun j hj l' W' h2 h3 h4=>by
   have hj':j<is.length:=by rwa [hzl]at hj
   have hjk:j<kl.length:=by omega
   have e1:(List.zipWith (memB ls) kl ((is.map Vt.m).map (prB ls n (lev+1))))[j]=memB ls kl[j] (prB ls n (lev+1) is[j].m):=by simp
   rw[e1]at h4 ⊢;exact pnamed b l' _ ls (n:Int) ((lev:Int)+1) k t ko kc kl o c is j hj' hjk W' hok' hT h2 h3 (hkx _ (List.getElem_mem hjk)) h4 (fun l'' W'' h5 h6 h7=>HIH j hj' l'' W'' h5 h6 h7)) (hgr W hW) (h.grow hW) hn (by omega) (by omega) h1
  rw[hzl]at this;exact this.mono (fun e W' hh=>⟨hh.1,hh.2.after hW hb.size⟩))
 have hpr:=prB_mk ls n lev k t kl (is.map Vt.m);have HP:Hq (∀(q:Bs) W',l++prB ls n lev (.mk k t kl (is.map Vt.m))=l++q->PrW w0.heap.size b (l++q) ls (n:Int) w W'->zf6 w0.heap.size b (l++prB ls n lev (.mk k t kl (is.map Vt.m))) ls (n:Int) w (.returned (.tuple #[])) W'):=hq (fun q W' he h2=>⟨rfl,he▸h2⟩);have HLN:=hq hl;generalize zf6 w0.heap.size b (l++prB ls n lev (.mk k t kl (is.map Vt.m))) ls (n:Int) w=PP at *;generalize prB ls n lev (.mk k t kl (is.map Vt.m))=PB at *;have HPR:=hq hpr;have HB0:=hq (za0 w (.cells #[.int .i64 k,.string (st t),.slice ko kl.length kc,.slice o is.length c] 26));have hW0:=Whole.made w 26 #[.int .i64 k,.string (st t),.slice ko kl.length kc,.slice o is.length c];obtain⟨c0,c1,c2,c3⟩:=za1 hW0;clear hok hok' ih hal hali hgr HIH hpr hl hb h hky htx hkx hT hd hW0 hd1;go_enter Tryz.func89,Tryz.ntmps89
 go_upto_region 1 with fail
 generalize w.heap.size=g at c0 c1 c2 c3;generalize (w.alloc (.cells #[.int .i64 k,.string (st t),.slice ko kl.length kc,.slice o is.length c] 26))=V0 at *;have hmf: ∀(fn:Fn) (first cap:Array Value) (w:World),(Instr.makeFunc fn first cap).run Tryz.prog w= .ok (.func fn first cap) w:=fun _ _ _ _=>rfl
 by_cases hk1:k=1
 ·have HE:Hq (PB=[110,117,108,108]):=hq (by rw[HPR.o,if_pos hk1]);have HC:=hq (HS.o [110,117,108,108] V0 HB0.o (by rw[←HE.o];exact HLN.o));have HV:=hq (fun W'=>HP.o [110,117,108,108] W' (by rw[HE.o]));clear HS HQ HL5 HL6 HP HPR HLN HE;go_wp2_with fail
  refine HC.o.mono ?_;rintro e w2 ⟨⟨m,rfl⟩,h2⟩;have HU:=hq (HV.o w2 h2);clear HV HC h2;go_wp2_with fail
  first
   |exact HU.o
   |(go_end0
     exact HU.o)
 rw[if_neg hk1]at HPR;by_cases hk4:k=4
 ·have HE:Hq (PB=qtB t):=hq (by rw[HPR.o,if_pos hk4]);have HC:=hq (HQ.o V0 HB0.o (by rw[←HE.o];exact HLN.o));have HV:=hq (fun W'=>HP.o (qtB t) W' (by rw[HE.o]));clear HS HQ HL5 HL6 HP HPR HLN HE;generalize qtB t=Q at *;go_wp2_with fail
  refine HC.o.mono ?_;rintro e w2 ⟨rfl,h2⟩;have HU:=hq (HV.o w2 h2);clear HV HC h2;go_wp2_with fail
  first
   |exact HU.o
   |(go_end0
     exact HU.o)
 rw[if_neg hk4]at HPR;by_cases hk5:k=5
 ·have HE:Hq (PB=zk7 ls n lev 91 93 ((is.map Vt.m).map (prB ls n (lev+1)))):=hq (by rw[HPR.o,if_pos hk5]);have HC:=hq (HL5.o V0 HB0.o (by rw[←HE.o];exact HLN.o));have HV:=hq (fun W'=>HP.o (zk7 ls n lev 91 93 ((is.map Vt.m).map (prB ls n (lev+1)))) W' (by rw[HE.o]));clear HS HQ HL5 HL6 HP HPR HLN HE;generalize zk7 ls n lev 91 93 ((is.map Vt.m).map (prB ls n (lev+1)))=Q at *;clear hk1 hk4;have hk1: ¬k=1:=by omega
  have hk4: ¬k=4:=by omega
  rw[hk5]at HC;go_wp2_with fail
  refine HC.o.mono ?_;rintro e w2 ⟨rfl,h2⟩;have HU:=hq (HV.o w2 h2);clear HV HC h2;go_wp2_with fail
  first
   |exact HU.o
   |(go_end0
     exact HU.o)
 rw[if_neg hk5]at HPR;by_cases hk6:k=6
 ·have HE:Hq (PB=zk7 ls n lev 123 125 (List.zipWith (memB ls) kl ((is.map Vt.m).map (prB ls n (lev+1))))):=hq (by rw[HPR.o,if_pos hk6]);have HC:=hq (HL6.o V0 hk6 HB0.o (by rw[←HE.o];exact HLN.o));have HV:=hq (fun W'=>HP.o (zk7 ls n lev 123 125 (List.zipWith (memB ls) kl ((is.map Vt.m).map (prB ls n (lev+1))))) W' (by rw[HE.o]));clear HS HQ HL5 HL6 HP HPR HLN HE;generalize zk7 ls n lev 123 125 (List.zipWith (memB ls) kl ((is.map Vt.m).map (prB ls n (lev+1))))=Q at *;clear hk1 hk4 hk5;have hk1: ¬k=1:=by omega
  have hk4: ¬k=4:=by omega
  have hk5: ¬k=5:=by omega
  rw[hk6]at HC;go_wp2_with fail
  refine HC.o.mono ?_;rintro e w2 ⟨rfl,h2⟩;have HU:=hq (HV.o w2 h2);clear HV HC h2;go_wp2_with fail
  first
   |exact HU.o
   |(go_end0
     exact HU.o)
 ·rw[if_neg hk6]at HPR;have HC:=hq (fun W hW=>HS.o t W hW (by rw[←HPR.o];exact HLN.o));have HV:=hq (fun W'=>HP.o t W' (by rw[HPR.o]));clear HS HQ HL5 HL6 HP HPR HLN;go_wp2_with fail
  go_region_with (go_at_call 91;refine(HC.o _ HB0.o.drew).mono ?_;rintro e w2 ⟨⟨m,rfl⟩,h2⟩;have HU:=hq (HV.o w2 h2))
  all_goals (go_wp2_with fail;first|exact HU.o|(go_end0;exact HU.o)))
end Go.Proofs.YtkafjblfjdpdaaaGreatDoor
