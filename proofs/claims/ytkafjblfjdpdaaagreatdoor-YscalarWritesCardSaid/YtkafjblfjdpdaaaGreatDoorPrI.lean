/-
  PLAIN MATHEMATICS: the document's ways to tell trees alike, and to order them, beside the program's.
  WALK: the document's sorted of layer 6: the least key is taken, again and again.
  WALKS: the document's texts, compare, Compare of layer 6.
  WALKS: the document's same, Same, Compare, Sorted, Copy of layer 6.
  WALKS: the document's Sorted, Copy, Same, Compare of layer 6.
  WALK: the law ValueStands.
  WALKS: the document's text of a value; its Compact, Canon, Pretty.
-/
import Derived.Test.YtkafjblfjdpdaaaGreatDoorVtNT
import Derived.Test.YtkafjblfjdpdaaaGreatDoorVtUB
import Derived.Test.YtkafjblfjdpdaaaGreatDoorVrC
import Derived.Test.YtkafjblfjdpdaaaGreatDoorPrM
import Derived.Test.YtkafjblfjdpdaaaGreatDoorPrH
import Derived.Test.YtkafjblfjdpdaaaGreatDoorYsC
namespace Go.Proofs.YtkafjblfjdpdaaaGreatDoor
open Go.RowKit
theorem cmp_less: ∀a b:Bs,cmpB a b=if Op.bytesLess a b=true then -1 else if Op.bytesLess b a=true then 1 else 0
 | [],[]=>by decide
 | [],_::_=>rfl
 |_::_,[]=>rfl
 |x::a,y::b=>by
  have h:=cmp_less a b
  simp only[cmpB,Lib.compareBytes,Op.bytesLess]at h ⊢
  rw[h]
  by_cases h1:x<y
  ·simp[h1]
  ·by_cases h2:y<x
   ·have e:x≠y:=fun e=>by subst e;exact h1 h2
    simp[h1,h2,e]
   ·have e:x=y:=by
     refine UInt8.toNat_inj.1 ?_
     rw[UInt8.lt_iff_toNat_lt]at h1 h2;omega
    subst e
    simp[h1]
theorem less_cmp {a b:Bs}:Op.bytesLess a b=true↔cmpB a b<0:=by
 rw[cmp_less]
 by_cases h:Op.bytesLess a b=true
 ·simp[h]
 ·by_cases h2:Op.bytesLess b a=true
  ·simp[h,h2]
  ·simp[h,h2]
structure Sel(ks D l:List Bs):Prop where
 perm:(D++l).Perm ks
 st:D.Pairwise (fun a b=>cmpB a b<0)
 lt: ∀d∈D,∀x∈l,cmpB d x<0
theorem Sel.start(ks:List Bs):Sel ks [] ks:=⟨List.Perm.refl _,.nil,fun d hd=>by cases hd⟩
theorem Sel.step {ks D l:List Bs} (h:Sel ks D l)(hn:ks.Nodup) {m:Nat} (hm:m<l.length)(hl: ∀j (hj:j<l.length),cmpB l[m] l[j]≤0):Sel ks (D++[l[m]]) (l.eraseIdx m):=by
 have hnl:l.Nodup:=(List.nodup_append.1 (h.perm.nodup_iff.2 hn)).2.1
 have he:l.eraseIdx m=l.erase l[m]:=by
  rw[List.erase_eq_eraseIdx]
  have h2:List.idxOf? l[m] l=some m:=by
   unfold List.idxOf?
   rw[List.findIdx?_eq_some_iff_getElem]
   refine⟨hm,by simp,fun j hj h=> ?_⟩
   have:=(List.getElem_inj hnl).1 (beq_iff_eq.1 h)
   omega
  rw[h2]
 have hp:l.Perm (l[m]::l.erase l[m]):=List.perm_cons_erase (List.getElem_mem hm)
 have hd: ∀x∈l.erase l[m],cmpB l[m] x<0:=fun x hx=>by
  obtain⟨h1,h2⟩:=(List.Nodup.mem_erase_iff hnl).1 hx
  obtain⟨j,hj,rfl⟩:=List.mem_iff_getElem.1 h2
  have:=hl j hj
  have h3:cmpB l[m] l[j]≠0:=fun e=>h1 (cmpB_eq e).symm
  omega
 rw[he]
 refine⟨?_,?_,?_⟩
 ·rw[List.append_assoc]
  exact(List.Perm.append_left D hp.symm).trans h.perm
 ·rw[List.pairwise_append]
  refine⟨h.st,List.pairwise_singleton _ _,fun d hd x hx=> ?_⟩
  rw[List.mem_singleton.1 hx]
  exact h.lt d hd _ (List.getElem_mem hm)
 ·intro d hdm x hx
  rcases List.mem_append.1 hdm with hq|hq
  ·exact h.lt d hq x (List.mem_of_mem_erase hx)
  ·rw[List.mem_singleton.1 hq];exact hd x hx
structure LeftI(gw:Nat)(kb ib:Option Nat)(o:Option Addr)(cap:Nat)(l:List Bs)(w:World):Prop where
 ok:(⟨o,cap,l⟩:SRow).ok w
 ap:0<l.length→ ∀a,o=some a→gw<a.block∧kb≠some a.block∧ib≠some a.block
section
variable {gw:Nat} {kb ib:Option Nat} {o:Option Addr} {cap:Nat} {l:List Bs} {w w':World}
theorem LeftI.grow(h:LeftI gw kb ib o cap l w)(hb:Below w.heap.size w w'):LeftI gw kb ib o cap l w':=⟨h.ok.grow hb,h.ap⟩
theorem LeftI.cut(h:LeftI gw kb ib o cap l w)(h0:0<l.length) {o':Option Addr} {cap':Nat} {l':List Bs} (hok:(⟨o',cap',l'⟩:SRow).ok w')(ho:o'=o∨ ∃g,o'=some ⟨g,0,none⟩∧w.heap.size≤g)(hgw:gw<w.heap.size)(hkb: ∀g,kb=some g→g<w.heap.size)(hib: ∀g,ib=some g→g<w.heap.size):LeftI gw kb ib o' cap' l' w':=by
 refine⟨hok,fun _ a ha=> ?_⟩
 rcases ho with rfl|⟨g,rfl,hg⟩
 ·exact h.ap h0 a ha
 ·obtain rfl:=Option.some.inj ha
  simp only
  exact⟨by omega,fun e=>by have:=hkb _ e;omega,fun e=>by have:=hib _ e;omega⟩
end
structure SgC(gv:Nat)(cv:Array Value)(b p:Nat)(key:Bs)(ib ip:Nat)(x:Vt)(X:World):Prop where
 v:Whole X gv 26 cv
 lk:X.cell? ⟨b,p,none⟩=some (.string (st key))
 it:ItemAt X ib ip x
section
variable {gv:Nat} {cv:Array Value} {b p:Nat} {key:Bs} {ib ip:Nat} {x:Vt} {X X':World}
theorem SgC.grow(h:SgC gv cv b p key ib ip x X)(hb:Below X.heap.size X X'):SgC gv cv b p key ib ip x X':=
 ⟨h.v.grow hb,(hb.cell (p:=⟨b,p,none⟩) (cell_blk h.lk)).trans h.lk,h.it.grow hb⟩
theorem SgC.grown(h:SgC gv cv b p key ib ip x X) {row:Option Nat} (hg:X.grownBy X' row)(h1:some gv≠row)(h2:some b≠row)(h3:some ib≠row):SgC gv cv b p key ib ip x X':=
 ⟨whole_grownV h.v hg h1,hg.cell h.lk h2,hg.cell h.it.c0 h3,hg.cell h.it.c1 h3,hg.cell h.it.c2 h3,hg.cell h.it.c3 h3⟩
theorem SgC.set(h:SgC gv cv b p key ib ip x X) {g:Nat} (h1:gv≠g)(h2:b≠g)(h3:ib≠g)(j:Nat)(u:Value):SgC gv cv b p key ib ip x (X.setCell ⟨g,j,none⟩ u):=by
 have q: ∀(d q:Nat),d≠g→(X.setCell ⟨g,j,none⟩ u).cell? ⟨d,q,none⟩=X.cell? ⟨d,q,none⟩:=fun d q hd=>World.cell?_of_block (heap_setCell_other X ⟨g,j,none⟩ d u hd)
 exact⟨h.v.far (p:=⟨g,j,none⟩) h1 u,(q _ _ h2).trans h.lk,(q _ _ h3).trans h.it.c0,(q _ _ h3).trans h.it.c1,(q _ _ h3).trans h.it.c2,(q _ _ h3).trans h.it.c3⟩
theorem SgC.drew(h:SgC gv cv b p key ib ip x X):SgC gv cv b p key ib ip x X.drew:=h.grow (Below.refl _ _).drew
theorem SgC.cells {k:Int} {t:Bs} {kv ov:Value} (h:SgC gv #[.int .i64 k,.string (st t),kv,ov] b p key ib ip x X):(X.cell? ⟨gv,0,none⟩=some (.int .i64 k)∧X.cell? ⟨gv,1,none⟩=some (.string (st t))∧X.cell? ⟨gv,2,none⟩=some kv∧X.cell? ⟨gv,3,none⟩=some ov)∧X.cell? ⟨b,p,none⟩=some (.string (st key))∧X.cell? ⟨ib,ip,none⟩=some (.int .i64 x.k)∧X.cell? ⟨ib,ip+1,none⟩=some (.string (st x.t))∧X.cell? ⟨ib,ip+2,none⟩=some x.ks.v∧X.cell? ⟨ib,ip+3,none⟩=some x.row:=
 ⟨four_cells h.v,h.lk,h.it.c0,h.it.c1,h.it.c2,h.it.c3⟩
end
def MinAt(l:List Bs)(m n:Nat):Prop:= ∀q (_:q<n) (hl:q<l.length) (hm:m<l.length),cmpB l[m] l[q]≤0
theorem MinAt.one(l:List Bs):MinAt l 0 1:=fun q hq1 hl hm=>by
 obtain rfl:q=0:=by omega
 rw[cmpB_self]
 exact Int.le_refl 0
theorem MinAt.take {l:List Bs} {m j:Nat} (h:MinAt l m j)(hm:m<l.length)(hj:j<l.length)(hl:Op.bytesLess l[j] l[m]=true):MinAt l j (j+1):=fun q hq1 hql _=>by
 by_cases e:q=j
 ·subst e;rw[cmpB_self];exact Int.le_refl 0
 ·have h1:=less_cmp.1 hl
  have h2:=h q (by omega) hql hm
  exact ordr_cmpB.tr _ _ _ trivial trivial trivial (by omega) h2
structure RemO(B:Nat)(W:World)(gv gr gw:Nat)(cv:Array Value)(ov:Value)(od:List Nat)(k:Int)(t:Bs)(kr:SRow)(o:Option Addr)(c:Nat)(ys:List Vt)(w:World):Prop where
 bl:Below W.heap.size W w
 sz:B≤w.heap.size
 hv:Whole w gv 26 cv
 hr:Whole w gr 26 #[.int .i64 0,.string ⟨#[]⟩,.slice none 0 0,.slice none 0 0]
 hw:Whole w gw 26 #[.int .i64 k,.string (st t),kr.v,.slice o ys.length c]
 od:w.ownsRow B 3 1 ov od.length (natC od)
 ks:w.ownsRow B 9 1 kr.v kr.l.length (strC kr.l)
 it:w.ownsRow B 26 4 (.slice o ys.length c) ys.length (vtC ys)
 ch: ∀y∈ys,y.Own 26 9 B (fun g=>kr.v.ownBlock≠some g∧(Value.slice o ys.length c).ownBlock≠some g) w
 l0:W.heap.size≤gv∧gv<B
 l1:W.heap.size≤gw∧gw<B
 l2:W.heap.size≤gr∧gr<B
 ne:gv≠gw
 nr:gr≠gw
section
variable {B:Nat} {W w w':World} {gv gr gw:Nat} {cv:Array Value} {ov:Value} {od:List Nat} {k:Int} {t:Bs} {kr:SRow} {o:Option Addr} {c:Nat} {ys:List Vt}
theorem RemO.grow(h:RemO B W gv gr gw cv ov od k t kr o c ys w)(hb:Below w.heap.size w w'):RemO B W gv gr gw cv ov od k t kr o c ys w':=
 ⟨below_trans h.bl hb,Nat.le_trans h.sz hb.size,h.hv.grow hb,h.hr.grow hb,h.hw.grow hb,h.od.kept (grownBy_below hb none) (by cases ov.ownBlock<;>simp),h.ks.kept (grownBy_below hb none) (by cases kr.v.ownBlock<;>simp),
  h.it.kept (grownBy_below hb none) (by cases (Value.slice o ys.length c).ownBlock<;>simp),fun y hy=>(h.ch y hy).grow hb,h.l0,h.l1,h.l2,h.ne,h.nr⟩
theorem RemO.out(h:RemO B W gv gr gw cv ov od k t kr o c ys w):(Vt.mk k t kr o c ys).Own 26 9 B (fun _=>True) w:=
 .mk k t kr o c ys h.ks (fun _ _=>trivial) h.it (fun _ _=>trivial) (fun _i hi=>(h.ch _ (List.getElem_mem hi)).kind (fun _ _=>trivial))
theorem RemO.key(h:RemO B W gv gr gw cv ov od k t kr o c ys w) {x:Bs} {o':Option Addr} {c':Nat} (hown:w'.ownsRow B 9 1 (.slice o' (kr.l.length+1) c') (kr.l.length+1) (strC kr.l++[.string (st x)]))(hg:w.grownBy w' kr.v.ownBlock)
 (hat:(Value.slice o' (kr.l.length+1) c').ownBlock=kr.v.ownBlock∨(Value.slice o' (kr.l.length+1) c').ownBlock=some w.heap.size):
 RemO B W gv gr gw cv ov od k t ⟨o',c',kr.l++[x]⟩ o c ys (w'.setCell ⟨gw,2,none⟩ (.slice o' (kr.l.length+1) c')):=by
 have hne: ∀g,g<B→some g≠kr.v.ownBlock:=fun g hgB e=>by have:=(h.ks.lt g e.symm).1;omega
 have hl:(kr.l++[x]).length=kr.l.length+1:=by rw[List.length_append,List.length_singleton]
 have hkv:(SRow.mk o' c' (kr.l++[x])).v= .slice o' (kr.l.length+1) c':=by unfold SRow.v;simp only;rw[hl]
 refine⟨?_,?_,(whole_grownV h.hv hg (hne gv h.l0.2)).far h.ne _,(whole_grownV h.hr hg (hne gr h.l2.2)).far h.nr _,?_,row_setV (h.od.kept hg ?_) h.l1.2 _,?_,row_setV (h.it.kept hg ?_) h.l1.2 _,fun y hy=> ?_,h.l0,h.l1,h.l2,h.ne,h.nr⟩
 ·exact below_put (h.bl.grown hg h.bl.size (fun j ej=>by have:=(h.ks.lt j ej).1;have:=h.l0;omega)) h.l1.1 _ _
 ·rw[show (w'.setCell ⟨gw,2,none⟩ (.slice o' (kr.l.length+1) c')).heap.size=w'.heap.size by simp[World.setCell]]
  exact Nat.le_trans h.sz hg.size
 ·have h1:=(whole_grownV h.hw hg (hne gw h.l1.2)).put 2 (.slice o' (kr.l.length+1) c')
  rw[hkv]
  exact h1
 ·exact own_apartV h.od h.ks (by decide)
 ·rw[hkv,hl]
  have h1:=row_setV hown h.l1.2 (i:=2) (.slice o' (kr.l.length+1) c')
  have e:strC (kr.l++[x])=strC kr.l++[.string (st x)]:=by unfold strC;rw[List.map_append];rfl
  rw[e]
  exact h1
 ·exact own_apartV h.it h.ks (by decide)
 ·refine Vt.Own.set (((h.ch y hy).lt.kept hg (fun g e hs=>hs.1.1 e)).kind (fun g hs=> ?_)) h.l1.2 _
  refine⟨fun e=> ?_,hs.1.2⟩
  rw[hkv]at e
  rcases hat with hat|hat
  ·rw[hat]at e;exact hs.1.1 e
  ·rw[hat]at e;have:=Option.some.inj e;omega
theorem RemO.item(h:RemO B W gv gr gw cv ov od k t kr o c ys w) {x:Vt} {o':Option Addr} {c':Nat} (hx:x.Own 26 9 B (fun g=>kr.v.ownBlock≠some g∧(Value.slice o ys.length c).ownBlock≠some g) w)
 (hown:w'.ownsRow B 26 4 (.slice o' (ys.length+1) c') (ys.length+1) (vtC ys++[.int .i64 x.k,.string (st x.t),x.ks.v,x.row])) (hg:w.grownBy w' (Value.slice o ys.length c).ownBlock)
 (hat:(Value.slice o' (ys.length+1) c').ownBlock=(Value.slice o ys.length c).ownBlock∨(Value.slice o' (ys.length+1) c').ownBlock=some w.heap.size):
 RemO B W gv gr gw cv ov od k t kr o' c' (ys++[x]) (w'.setCell ⟨gw,3,none⟩ (.slice o' (ys.length+1) c')):=by
 have hne: ∀g,g<B→some g≠(Value.slice o ys.length c).ownBlock:=fun g hgB e=>by have:=(h.it.lt g e.symm).1;omega
 have hl:(ys++[x]).length=ys.length+1:=by rw[List.length_append,List.length_singleton]
 refine⟨?_,?_,(whole_grownV h.hv hg (hne gv h.l0.2)).far h.ne _,(whole_grownV h.hr hg (hne gr h.l2.2)).far h.nr _,?_,row_setV (h.od.kept hg ?_) h.l1.2 _,row_setV (h.ks.kept hg ?_) h.l1.2 _,?_,fun y hy=> ?_,h.l0,h.l1,h.l2,h.ne,h.nr⟩
 ·exact below_put (h.bl.grown hg h.bl.size (fun j ej=>by have:=(h.it.lt j ej).1;have:=h.l0;omega)) h.l1.1 _ _
 ·rw[show (w'.setCell ⟨gw,3,none⟩ (.slice o' (ys.length+1) c')).heap.size=w'.heap.size by simp[World.setCell]]
  exact Nat.le_trans h.sz hg.size
 ·have h1:=(whole_grownV h.hw hg (hne gw h.l1.2)).put 3 (.slice o' (ys.length+1) c')
  rw[hl]
  exact h1
 ·exact own_apartV h.od h.it (by decide)
 ·exact own_apartV h.ks h.it (by decide)
 ·rw[hl,vtC_snoc]
  exact row_setV hown h.l1.2 _
 ·have key: ∀y:Vt,y.Own 26 9 B (fun g=>kr.v.ownBlock≠some g∧(Value.slice o ys.length c).ownBlock≠some g) w→y.Own 26 9 B (fun g=>kr.v.ownBlock≠some g∧(Value.slice o' (ys++[x]).length c').ownBlock≠some g) (w'.setCell ⟨gw,3,none⟩ (.slice o' (ys.length+1) c')):=fun y hy=>by
   refine Vt.Own.set ((hy.lt.kept hg (fun g e hs=>hs.1.2 e)).kind (fun g hs=>⟨hs.1.1,fun e=> ?_⟩)) h.l1.2 _
   rw[hl]at e
   rcases hat with hat|hat
   ·rw[hat]at e;exact hs.1.2 e
   ·rw[hat]at e;have:=Option.some.inj e;omega
  rcases List.mem_append.1 hy with hy|hy
  ·exact key y (h.ch y hy)
  ·rw[List.mem_singleton.1 hy];exact key x hx
end
def opS(o:Op):Op:=o
def lenV:Value→Nat
 | .slice _ n _=>n
 |_=>0
def Like(k:Int)(kl kl':List Bs)(is is':List Vl)(q:Nat):Prop:= ∀(hq:q<is.length),∃jx,∃hj:jx<is'.length,(k=6→ ∀hk:q<kl.length,ixOf kl' kl[q]=some jx)∧(k≠6→jx=q)∧sortV is[q]=sortV is'[jx]
def SamePost(a b:Vl)(w:World)(e:Ending)(w':World):Prop:= ∃v:Bool,e= .returned (.bool v)∧(v=true↔sortV a=sortV b)∧Below w.heap.size w w'
def IsG(m:Vl)(a:Value)(V:World):Prop:= ∃y:Vt,a=y.v∧y.Ok V∧y.m=m∧Good m∧m.All Lim
def SrtG(m:Vl)(V:World)(e:Ending)(V':World):Prop:= ∃a:Value,e= .returned a∧Hq (∀V2,Below V'.heap.size V' V2→IsG m a V2)∧Below V.heap.size V V'
theorem BoxS.four {g:Nat} {w:World} {t:Bs} {kv ov:Value} (h:BoxS w g t kv ov): ∃z,w.cell? ⟨g,0,none⟩=some (.int .i64 z)∧w.cell? ⟨g,1,none⟩=some (.string (st t))∧w.cell? ⟨g,2,none⟩=some kv∧w.cell? ⟨g,3,none⟩=some ov:=by
 obtain⟨cur,h1,⟨z,h2⟩,h3,h4,h5⟩:=h.at_
 exact⟨z,(cell_of_row w g _ cur _ (0,0) h1).trans h2,(cell_of_row w g _ cur _ (0,0) h1).trans h3,(cell_of_row w g _ cur _ (0,0) h1).trans h4,(cell_of_row w g _ cur _ (0,0) h1).trans h5⟩
structure Pw(w:World)(g gw:Nat)(CA CB CW:Array Value)(ws:Vt)(W:World):Prop where
 lo:Below w.heap.size w W
 a:Whole W g 26 CA
 b:Whole W (g+1) 26 CB
 c:Whole W gw 26 CW
 fw:ws.Ok W
theorem Pw.grow {w W W':World} {g gw:Nat} {CA CB CW:Array Value} {ws:Vt} (h:Pw w g gw CA CB CW ws W)(hb:Below W.heap.size W W'):Pw w g gw CA CB CW ws W':=
 ⟨below_trans h.lo hb,h.a.grow hb,h.b.grow hb,h.c.grow hb,h.fw.grow hb⟩
theorem Pw.drew {w W:World} {g gw:Nat} {CA CB CW:Array Value} {ws:Vt} (h:Pw w g gw CA CB CW ws W):Pw w g gw CA CB CW ws W.drew:=h.grow (Below.refl _ _).drew
structure Pv2(B:Nat)(W6:World)(g gs gc:Nat)(CA CS CC:Array Value)(ss cs:Vt)(W:World):Prop where
 b6:Below B W6 W
 a:Whole W g 26 CA
 s:Whole W gs 26 CS
 c:Whole W gc 26 CC
 so:ss.Own 26 9 B (fun _=>True) W
 co:cs.Own 26 9 B (fun _=>True) W
theorem Pv2.grow {B:Nat} {W6 W W':World} {g gs gc:Nat} {CA CS CC:Array Value} {ss cs:Vt} (hB:B=W6.heap.size)(h:Pv2 B W6 g gs gc CA CS CC ss cs W)(hb:Below W.heap.size W W'):Pv2 B W6 g gs gc CA CS CC ss cs W':=by
 subst hB
 exact⟨below_trans h.b6 hb,h.a.grow hb,h.s.grow hb,h.c.grow hb,h.so.grow hb,h.co.grow hb⟩
def MkM(m:Vl)(V:World)(e:Ending)(V':World):Prop:= ∃a:Value,e= .returned a∧Hq (IsM m a V')∧Below V.heap.size V V'
end Go.Proofs.YtkafjblfjdpdaaaGreatDoor
namespace Go.Proofs.YtkafjblfjdpdaaaGreatDoor
open Go.RowKit
set_option maxHeartbeats 16000000 in
set_option maxRecDepth 1000000 in
theorem rtleaf(ind lev k:Int)(t:Bs)(ko:Option Addr)(kc kn:Nat)(o:Option Addr)(c n:Nat)(w:World)(hk:k=1∨k=2∨k=3∨k=4)(ht:t.length≤1048576):
 Calls Tryz.prog 96 #[.agg #[.int .i64 k,.string (st t),.slice ko kn kc,.slice o n c],.int .i64 ind,.int .i64 lev] w (StrP (if k=1 then [110,117,108,108] else if k=4 then qtB t else t) w):=by
 have HQT:=hq (fun W=>rquote_any (st t) W (by rw[st_size];omega))
 rw[show (quoteM (st t)).1=qtB t from rfl]at HQT
 generalize (quoteM (st t)).2=qe at *
 have HP0:Hq (∀(q:Bs) W',(if k=1 then [110,117,108,108] else if k=4 then qtB t else t)=q→Below w.heap.size w W'→StrP (if k=1 then [110,117,108,108] else if k=4 then qtB t else t) w (.returned (.string (st q))) W'):=hq (fun q W' h1 h2=>by rw[h1];exact⟨rfl,h2⟩)
 generalize StrP (if k=1 then [110,117,108,108] else if k=4 then qtB t else t) w=PP at *
 have hb0:=below_alloc w (.cells #[.int .i64 k,.string (st t),.slice ko kn kc,.slice o n c] 26)
 have HB0:=hq hb0
 obtain⟨c0,c1,c2,c3⟩:=four_cells (Whole.made w 26 #[.int .i64 k,.string (st t),.slice ko kn kc,.slice o n c])
 clear hb0
 go_enter Tryz.func96,Tryz.ntmps96
 go_upto_region 1 with fail
 generalize (w.alloc (.cells #[.int .i64 k,.string (st t),.slice ko kn kc,.slice o n c] 26))=V0 at *
 rcases hk with rfl|rfl|rfl|rfl
 ·have HV:=hq (HP0.o _ V0 (if_pos rfl) HB0.o)
  clear HP0
  go_wp2_with fail
  first
   |exact HV.o
   |(go_ret
     exact HV.o)
   |trace_state
 ·have HV:=hq (HP0.o _ V0 (by rw[if_neg (by decide),if_neg (by decide)]) HB0.o)
  clear HP0
  go_wp2_with fail
  first
   |exact HV.o
   |(go_ret
     exact HV.o)
   |trace_state
 ·have HV:=hq (HP0.o _ V0 (by rw[if_neg (by decide),if_neg (by decide)]) HB0.o)
  clear HP0
  go_wp2_with fail
  first
   |exact HV.o
   |(go_ret
     exact HV.o)
   |trace_state
 ·have HV:=hq (fun W' h=>HP0.o _ W' (by rw[if_neg (by decide),if_pos rfl]) (below_trans HB0.o h))
  clear HP0
  go_wp2_with fail
  refine(HQT.o _).mono ?_
  rintro e v1 ⟨rfl,hv1⟩
  have HU:=hq (HV.o v1 hv1)
  clear HV HQT hv1
  go_wp2_with fail
  first
   |exact HU.o
   |(go_ret
     exact HU.o)
   |trace_state
theorem item_len(ls:Bool) {n lev:Nat} (hn:n≤8) {v:Vl} (hs:v.All Sht)(hd:lev+v.depth≤1000)(hz:v.size≤30000):(prB ls n lev v).length≤900000000:=by
 have:=prB_len ls n hn v hs lev hd
 omega
theorem comma_le(ls:Bool)(n lev:Nat)(o c:UInt8)(its:List Bs):(commaB (lnB ls n (lev+1)) its).length≤(listB ls n lev o c its).length:=by
 unfold listB
 simp only[List.length_cons,List.length_append]
 omega
theorem rtextG(ls:Bool)(ind:Int)(n:Nat)(hn:n≤8)(hm:(ls=true∧ind=(n:Int))∨(ls=false∧ind=-1)): ∀(x:Vt) (lev:Nat) (w:World),x.Ok w→Rgt x.m→x.m.All Sht→lev+x.m.depth≤1000→x.m.size≤30000→Calls Tryz.prog 96 #[x.v,.int .i64 ind,.int .i64 (lev:Int)] w (StrP (prB ls n lev x.m) w):=Vt.ind (fun k t ks o c is ih lev w hok hr hs hd hz=>by
 obtain⟨ko,kc,kl⟩:=ks
 have hok':=hok
 rw[Vt.m_mk]at *
 rw[Vt.v_mk']
 simp only at *
 obtain⟨ht,hkx⟩:=hs.here
 simp only[Vl.t,Vl.ks]at ht hkx
 have hsi:=hs.items
 have hri:=hr.item
 have hbd:=item_len ls hn hs hd hz
 have hdd:=hd
 have hzz:=hz
 simp only[Vl.depth]at hd
 simp only[Vl.size]at hz
 have hit: ∀j (hj:j<is.length),Rgt is[j].m∧is[j].m.All Sht∧(lev+1)+is[j].m.depth≤1000∧is[j].m.size≤30000:=fun j hj=>by
  have hm:is[j]∈is:=List.getElem_mem hj
  have hmm:is[j].m∈is.map Vt.m:=List.mem_map.2 ⟨_,hm,rfl⟩
  have h1:=Vl.depths_le _ hmm
  have h2:=Vl.sizes_le _ hmm
  exact⟨hri _ hmm,hsi _ hmm,by omega,by omega⟩
 have hxl: ∀x∈(is.map Vt.m).map (prB ls n (lev+1)),x.length≤900000000:=fun x hx=>by
  obtain⟨y,hy,rfl⟩:=List.mem_map.1 hx
  have h1:=Vl.depths_le _ hy
  have h2:=Vl.sizes_le _ hy
  exact item_len ls hn (hsi y hy) (by omega) (by omega)
 have hih: ∀(j:Nat) (hj:j<is.length) (hjx:j<((is.map Vt.m).map (prB ls n (lev+1))).length) (W:World),Below w.heap.size w W→Calls Tryz.prog 96 #[is[j].v,.int .i64 ind,.int .i64 ((lev:Int)+1)] W (StrP ((is.map Vt.m).map (prB ls n (lev+1)))[j] W):=fun j hj hjx W hW=>by
  obtain⟨h1,h2,h3,h4⟩:=hit j hj
  have:=ih is[j] (List.getElem_mem hj) (lev+1) W ((hok'.item j hj).grow hW) h1 h2 h3 h4
  simpa using this
 rw[prB_mk]at hbd ⊢
 rcases hr.is with ⟨rfl,_⟩|⟨rfl,_⟩|⟨rfl,_⟩|⟨rfl,_⟩|⟨rfl,_,_⟩|⟨rfl,_,hkl,_⟩
 ·exact rtleaf ind lev 1 t ko kc kl.length o c is.length w (.inl rfl) (by omega)
 ·exact rtleaf ind lev 2 t ko kc kl.length o c is.length w (.inr (.inl rfl)) (by omega)
 ·exact rtleaf ind lev 3 t ko kc kl.length o c is.length w (.inr (.inr (.inl rfl))) (by omega)
 ·exact rtleaf ind lev 4 t ko kc kl.length o c is.length w (.inr (.inr (.inr rfl))) (by omega)
 ·rw[if_neg (by decide),if_neg (by decide),if_pos rfl]at hbd ⊢
  have hc:=Nat.le_trans (comma_le ls n lev 91 93 _) hbd
  rcases hm with ⟨rfl,rfl⟩|⟨rfl,rfl⟩
  ·exact rtlist5T n lev hn (by omega) t ko kc kl o c is _ w hok' (by simp) hc hxl hih
  ·exact rtlist5F n lev hn (by omega) t ko kc kl o c is _ w hok' (by simp) hc hxl hih
 ·rw[if_neg (by decide),if_neg (by decide),if_neg (by decide),if_pos rfl]at hbd ⊢
  have hc:=Nat.le_trans (comma_le ls n lev 123 125 _) hbd
  have hkl':kl.length=is.length:=by simpa using hkl
  rcases hm with ⟨rfl,rfl⟩|⟨rfl,rfl⟩
  ·exact rtlist6T n lev hn (by omega) t ko kc kl o c is _ w hok' (by simp) hkl' (fun x hx=>by have:=hkx x hx;omega) hc hxl hih
  ·exact rtlist6F n lev hn (by omega) t ko kc kl o c is _ w hok' (by simp) hkl' (fun x hx=>by have:=hkx x hx;omega) hc hxl hih)
theorem rtext_pri {x:Vt} {w:World} (hx:Pri x w)(hr:rightM x.m=true)(ls:Bool)(ind:Int)(n lev:Nat)(hn:n≤8)(hl:lev≤32)(hm:(ls=true∧ind=(n:Int))∨(ls=false∧ind=-1)):Calls Tryz.prog 96 #[x.v,.int .i64 ind,.int .i64 (lev:Int)] w (StrP (prB ls n lev x.m) w):=by
 obtain⟨_,h1,h2,_⟩:=right_good hr
 exact rtextG ls ind n hn hm x lev w hx.fine.ok (right_rgt hr) hx.sht (by omega) (by omega)
set_option maxHeartbeats 16000000 in
set_option maxRecDepth 1000000 in
theorem rcompact_any(x:Vt)(w:World)(hx:Pri x w):Calls Tryz.prog 52 #[x.v] w (TextP (compactM x.m) w):=by
 have HR:=hq (fun V (hV:Below w.heap.size w V)=>rrightV_any x V (hx.fine.grow hV))
 have HT:=hq (fun (hr:rightM x.m=true) V (hV:Below w.heap.size w V)=>rtext_pri (hx.grow hV) hr false (-1) 0 0 (by decide) (by decide) (.inr ⟨rfl,rfl⟩))
 have HP:Hq (∀(r:Bs×Int) W',compactM x.m=r→Below w.heap.size w W'→TextP (compactM x.m) w (.returned (.tuple #[.string (st r.1),.int .i64 r.2])) W'):=hq (fun r W' h1 h2=>by rw[h1];exact⟨rfl,h2⟩)
 have HCM:Hq (compactM x.m=if rightM x.m=true then(prB false 0 0 x.m,0) else([],1)):=hq rfl
 generalize TextP (compactM x.m) w=PP at *
 generalize compactM x.m=CM at *
 generalize prB false 0 0 x.m=PB at *
 generalize rightM x.m=r at *
 clear hx
 obtain⟨k,t,⟨ko,kc,kl⟩,o,c,is⟩:=x
 rw[Vt.v_mk']at *
 have HB0:=hq (below_alloc w (.cells #[.int .i64 k,.string (st t),.slice ko kl.length kc,.slice o is.length c] 26))
 have HW0:=hq (Whole.made w 26 #[.int .i64 k,.string (st t),.slice ko kl.length kc,.slice o is.length c])
 go_enter Tryz.func52,Tryz.ntmps52
 go_upto_region 1 with fail
 generalize w.heap.size=g at HW0
 generalize (w.alloc (.cells #[.int .i64 k,.string (st t),.slice ko kl.length kc,.slice o is.length c] 26))=V0 at *
 obtain⟨c0,c1,c2,c3⟩:=four_cells HW0.o
 go_wp2_with fail
 refine(HR.o V0 HB0.o).mono ?_
 rintro e w1 ⟨rfl,hb1⟩
 have HB1:=hq (below_trans HB0.o hb1)
 have HW1:=hq (HW0.o.grow hb1)
 clear HR hb1 HB0 HW0 c0 c1 c2 c3
 obtain⟨c0,c1,c2,c3⟩:=four_cells HW1.o
 cases r with
 |false=>
  have HV:=hq (HP.o ([],1) w1 (by rw[HCM.o];rfl) HB1.o)
  clear HP HCM HT
  go_wp2_with fail
  first
   |exact HV.o
   |(go_ret2
     exact HV.o)
   |(go_ret
     exact HV.o)
   |trace_state
 |true=>
  have HC:=hq (HT.o (by first|rfl|trivial) w1 HB1.o)
  rw[show ((0:Nat):Int)=0 from rfl]at HC
  have HV:=hq (fun W' h=>HP.o (PB,0) W' (by rw[HCM.o];rfl) (below_trans HB1.o h))
  clear HP HCM HT
  go_wp2_with fail
  refine HC.o.mono ?_
  rintro e w2 ⟨rfl,hb2⟩
  have HU:=hq (HV.o w2 hb2)
  clear HV HC hb2 c0 c1 c2 c3
  go_wp2_with fail
  first
   |exact HU.o
   |(go_ret2
     exact HU.o)
   |(go_ret
     exact HU.o)
   |trace_state
end Go.Proofs.YtkafjblfjdpdaaaGreatDoor
