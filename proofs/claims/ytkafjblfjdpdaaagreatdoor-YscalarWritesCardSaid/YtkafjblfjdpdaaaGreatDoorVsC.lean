/-
  A TREE OF A CALL'S OWN IS WRITTEN OVER BY ITS OWNER: what stays (the rows, the texts of nodes), what does not (keys, kinds); the walk of Spoil.
  WALK: the document's Clone of a tree.
-/
import Derived.Test.YtkafjblfjdpdaaaGreatDoorVtRD
import Derived.ArgAppend
import Derived.Deep.Upon
import Derived.Deep.RegionHeld3
namespace Go.Proofs.YtkafjblfjdpdaaaGreatDoor
open Go.RowKit
def isI(u:Value):Bool:=match u with
 | .int .i64 _=>true
 |_=>false
inductive Vt.Shp (B:Nat) (w:World):Vt→Prop
 |mk (k:Int) (t:Bs) (ks:SRow) (o:Option Addr) (c:Nat) (is:List Vt) (hkl:ks.l.length≤ks.cap) (hkc:ks.cap≤maxLen)
  (hks: ∀i,i<ks.l.length→ ∃(g:Nat) (cur:Array Value),ks.o=some ⟨g,0,none⟩∧B≤g∧w.heap[g]?=some (.cells cur 9 (0,0))∧ ∃s,cur[i]?=some (.string s))
  (hl:is.length≤c) (hc:c≤maxLen)
  (hat: ∀i (h:i<is.length),∃(g:Nat) (cur:Array Value),o=some ⟨g,0,none⟩∧B≤g∧w.heap[g]?=some (.cells cur 26 (0,0))∧(∃z,cur[i*4]?=some (.int .i64 z))∧cur[i*4+1]?=some (.string (st is[i].t))∧cur[i*4+2]?=some is[i].ks.v∧cur[i*4+3]?=some is[i].row)
  (hi: ∀i (h:i<is.length),Vt.Shp B w is[i]):Vt.Shp B w (.mk k t ks o c is)
structure Spl(B:Nat)(w w':World):Prop where
 below:Below B w w'
 str: ∀(g:Nat) (cur:Array Value),w.heap[g]?=some (.cells cur 9 (0,0))→ ∃cur',w'.heap[g]?=some (.cells cur' 9 (0,0))∧ ∀(i:Nat) s,cur[i]?=some (.string s)→ ∃s',cur'[i]?=some (.string s')
 val: ∀(g:Nat) (cur:Array Value),w.heap[g]?=some (.cells cur 26 (0,0))→ ∃cur',w'.heap[g]?=some (.cells cur' 26 (0,0))∧(∀(i:Nat) z,cur[i]?=some (.int .i64 z)→ ∃z',cur'[i]?=some (.int .i64 z'))∧ ∀(i:Nat) u,isI u=false→cur[i]?=some u→cur'[i]?=some u
theorem Spl.trans {B:Nat} {a b c:World} (h:Spl B a b)(h':Spl B b c):Spl B a c where
 below:=h.below.trans h'.below
 str g cur hg:=by
  obtain⟨c1,h1,h2⟩:=h.str g cur hg
  obtain⟨c2,h3,h4⟩:=h'.str g c1 h1
  refine⟨c2,h3,fun i s hs=> ?_⟩
  obtain⟨s1,hs1⟩:=h2 i s hs
  exact h4 i s1 hs1
 val g cur hg:=by
  obtain⟨c1,h1,h2,h2'⟩:=h.val g cur hg
  obtain⟨c2,h3,h4,h4'⟩:=h'.val g c1 h1
  refine⟨c2,h3,fun i z hz=> ?_,fun i u hu hi=>h4' i u hu (h2' i u hu hi)⟩
  obtain⟨z1,hz1⟩:=h2 i z hz
  exact h4 i z1 hz1
theorem Spl.of {B:Nat} {w w':World} (h:Below w.heap.size w w')(hB:B≤w.heap.size):Spl B w w' where
 below:=h.mono hB
 str g cur hg:=by
  have hl:g<w.heap.size:=(Array.getElem?_eq_some_iff.1 hg).1
  exact⟨cur,(h.block g hl).trans hg,fun i s hs=>⟨s,hs⟩⟩
 val g cur hg:=by
  have hl:g<w.heap.size:=(Array.getElem?_eq_some_iff.1 hg).1
  exact⟨cur,(h.block g hl).trans hg,fun i z hz=>⟨z,hz⟩,fun i u _ hi=>hi⟩
theorem Spl.setStr {B:Nat} {w:World} {g i:Nat} {cur:Array Value} (hB:B≤g)(hg:w.heap[g]?=some (.cells cur 9 (0,0)))(s:ByteArray):Spl B w (w.setCell ⟨g,i,none⟩ (.string s)) where
 below:=below_put (Below.refl _ _) hB _ _
 str g' cur' hg':=by
  by_cases e:g'=g
  ·subst e
   rw[hg]at hg'
   obtain rfl:cur=cur':=by injection hg' with h;injection h
   refine⟨_,heap_setCell_same w g' i cur _ _ hg,fun j s' hs'=> ?_⟩
   by_cases e2:i=j
   ·subst e2
    have hl:=(Array.getElem?_eq_some_iff.1 hs').1
    exact⟨s,by rw[Array.getElem?_setIfInBounds];simp[hl]⟩
   ·exact ⟨s',by rw[Array.getElem?_setIfInBounds,if_neg e2];exact hs'⟩
  ·exact ⟨cur',(heap_setCell_other w ⟨g,i,none⟩ g' _ e).trans hg',fun j s' hs'=>⟨s',hs'⟩⟩
 val g' cur' hg':=by
  have e:g'≠g:=fun e=>by
   subst e
   rw[hg]at hg'
   injection hg' with h
   injection h with _ h2 _
   exact absurd h2 (by decide)
  exact⟨cur',(heap_setCell_other w ⟨g,i,none⟩ g' _ e).trans hg',fun j z hz=>⟨z,hz⟩,fun j u _ hj=>hj⟩
theorem Spl.setInt {B:Nat} {w:World} {g i:Nat} {cur:Array Value} (hB:B≤g)(hg:w.heap[g]?=some (.cells cur 26 (0,0)))(hi: ∃z,cur[i]?=some (.int .i64 z))(z:Int):Spl B w (w.setCell ⟨g,i,none⟩ (.int .i64 z)) where
 below:=below_put (Below.refl _ _) hB _ _
 val g' cur' hg':=by
  by_cases e:g'=g
  ·subst e
   rw[hg]at hg'
   obtain rfl:cur=cur':=by injection hg' with h;injection h
   refine⟨_,heap_setCell_same w g' i cur _ _ hg,fun j s' hs'=> ?_,fun j u hu hj=> ?_⟩
   ·by_cases e2:i=j
    ·subst e2
     have hl:=(Array.getElem?_eq_some_iff.1 hs').1
     exact⟨z,by rw[Array.getElem?_setIfInBounds];simp[hl]⟩
    ·exact ⟨s',by rw[Array.getElem?_setIfInBounds,if_neg e2];exact hs'⟩
   ·have e2:i≠j:=fun e2=>by
     subst e2
     obtain⟨z0,hz0⟩:=hi
     rw[hz0]at hj
     obtain rfl:=Option.some.inj hj
     cases hu
    rw[Array.getElem?_setIfInBounds,if_neg e2];exact hj
  ·exact ⟨cur',(heap_setCell_other w ⟨g,i,none⟩ g' _ e).trans hg',fun j z hz=>⟨z,hz⟩,fun j u _ hj=>hj⟩
 str g' cur' hg':=by
  have e:g'≠g:=fun e=>by
   subst e
   rw[hg]at hg'
   injection hg' with h
   injection h with _ h2 _
   exact absurd h2 (by decide)
  exact⟨cur',(heap_setCell_other w ⟨g,i,none⟩ g' _ e).trans hg',fun j z hz=>⟨z,hz⟩⟩
theorem Vt.Shp.spl {B:Nat} {w w':World} {x:Vt} (h:Vt.Shp B w x)(hs:Spl B w w'):Vt.Shp B w' x:=by
 induction h with
 |mk k t ks o c is hkl hkc hks hl hc hat _ ih=>
  refine .mk k t ks o c is hkl hkc (fun i hi=> ?_) hl hc (fun i hi=> ?_) ih
  ·obtain ⟨g,cur,h1,h2,h3,s,h4⟩:=hks i hi
   obtain⟨cur',h5,h6⟩:=hs.str g cur h3
   exact⟨g,cur',h1,h2,h5,h6 i s h4⟩
  ·obtain ⟨g,cur,h1,h2,h3,⟨z,h4⟩,h5,h6,h7⟩:=hat i hi
   obtain⟨cur',q1,q2,q3⟩:=hs.val g cur h3
   exact⟨g,cur',h1,h2,q1,q2 _ z h4,q3 _ _ rfl h5,q3 _ _ rfl h6,q3 _ _ rfl h7⟩
section
variable {B:Nat} {w w':World} {k:Int} {t:Bs} {ks:SRow} {o:Option Addr} {c:Nat} {is:List Vt}
theorem Vt.Shp.caps(h:Vt.Shp B w (.mk k t ks o c is)):ks.l.length≤ks.cap∧ks.cap≤maxLen∧is.length≤c∧c≤maxLen:=by
 cases h with
 |mk _ _ _ _ _ _ hkl hkc hks hl hc hat hi=>exact⟨hkl,hkc,hl,hc⟩
theorem Vt.Shp.key(h:Vt.Shp B w (.mk k t ks o c is)) {i:Nat} (hi:i<ks.l.length): ∃g s,ks.o=some ⟨g,0,none⟩∧B≤g∧w.cell? ⟨g,i,none⟩=some (.string s)∧w.frozen? ⟨g,i,none⟩=false∧ ∀s',Spl B w (w.setCell ⟨g,i,none⟩ (.string s')):=by
 cases h with
 |mk _ _ _ _ _ _ hkl hkc hks hl hc hat _=>
  obtain⟨g,cur,h1,h2,h3,s,h4⟩:=hks i hi
  exact⟨g,s,h1,h2,(cell_of_row w g i cur _ (0,0) h3).trans h4,frozen_of_row w g i cur _ h3,fun s'=>Spl.setStr h2 h3 s'⟩
theorem Vt.Shp.item(h:Vt.Shp B w (.mk k t ks o c is)) {i:Nat} (hi:i<is.length): ∃g z,o=some ⟨g,0,none⟩∧B≤g∧w.cell? ⟨g,i*4,none⟩=some (.int .i64 z)∧w.cell? ⟨g,i*4+1,none⟩=some (.string (st is[i].t))∧w.cell? ⟨g,i*4+2,none⟩=some is[i].ks.v∧w.cell? ⟨g,i*4+3,none⟩=some is[i].row∧w.frozen? ⟨g,i*4,none⟩=false∧ ∀z',Spl B w (w.setCell ⟨g,i*4,none⟩ (.int .i64 z')):=by
 cases h with
 |mk _ _ _ _ _ _ hkl hkc hks hl hc hat _=>
  obtain⟨g,cur,h1,h2,h3,⟨z,h4⟩,h5,h6,h7⟩:=hat i hi
  have q:=fun j=>cell_of_row w g j cur _ (0,0) h3
  exact⟨g,z,h1,h2,(q _).trans h4,(q _).trans h5,(q _).trans h6,(q _).trans h7,frozen_of_row w g _ cur _ h3,fun z'=>Spl.setInt h2 h3 ⟨z,h4⟩ z'⟩
theorem Vt.Shp.kid(h:Vt.Shp B w (.mk k t ks o c is)) {i:Nat} (hi:i<is.length):Vt.Shp B w is[i]:=by
 cases h with
 |mk _ _ _ _ _ _ hkl hkc hks hl hc hat hi'=>exact hi' i hi
end
structure BoxS(w:World)(g:Nat)(t:Bs)(kv ov:Value):Prop where
 at_: ∃cur,w.heap[g]?=some (.cells cur 26 (0,0))∧(∃z,cur[0]?=some (.int .i64 z))∧cur[1]?=some (.string (st t))∧cur[2]?=some kv∧cur[3]?=some ov
theorem BoxS.spl {B g:Nat} {w w':World} {t:Bs} {kv ov:Value} (h:BoxS w g t kv ov)(hk:isI kv=false)(ho:isI ov=false)(hs:Spl B w w'):BoxS w' g t kv ov:=by
 obtain⟨cur,h1,⟨z,h2⟩,h3,h4,h5⟩:=h.at_
 obtain⟨cur',q1,q2,q3⟩:=hs.val g cur h1
 exact⟨cur',q1,q2 _ _ h2,q3 _ _ rfl h3,q3 _ _ hk h4,q3 _ _ ho h5⟩
theorem BoxS.cells {g:Nat} {w:World} {t:Bs} {kv ov:Value} (h:BoxS w g t kv ov):w.cell? ⟨g,2,none⟩=some kv∧w.cell? ⟨g,3,none⟩=some ov:=by
 obtain⟨cur,h1,_,h3,h4,h5⟩:=h.at_
 exact⟨(cell_of_row w g _ cur _ (0,0) h1).trans h4,(cell_of_row w g _ cur _ (0,0) h1).trans h5⟩
theorem BoxS.made(w:World)(z:Int)(t:Bs)(kv ov:Value):BoxS (w.alloc (.cells #[.int .i64 z,.string (st t),kv,ov] 26)) w.heap.size t kv ov:=
 ⟨_,heap_alloc_new w _,⟨z,rfl⟩,rfl,rfl,rfl⟩
def SpPost(B:Nat)(w:World)(e:Ending)(w':World):Prop:=e= .returned (.tuple #[])∧Spl B w w'
theorem row_setT {w:World} {B e size n:Nat} {v:Value} {xs:List Value} (h:w.ownsRow B e size v n xs) {g i:Nat} {T:TypeId} {cs:Array Value} (hw:Whole w g T cs)(hne:e≠T)(u:Value):(w.setCell ⟨g,i,none⟩ u).ownsRow B e size v n xs:=
 h.kept (row:=some g) ⟨rfl,rfl,rfl,by simp[World.setCell],fun k _ hne=>Below.heap_setCell w ⟨g,i,none⟩ u k (fun e=>hne (by rw[e]))⟩ (by
  cases hv:v.ownBlock with
  |none=>exact .inl rfl
  |some b=>exact .inr (fun e2=>by
   have e3:=Option.some.inj e2
   subst e3
   obtain⟨cur,hc⟩:=ownT' h b hv
   have h2:w.heap[b]?=some (.cells cs T (0,0)):=hw
   rw[hc]at h2
   cases h2
   exact hne rfl))
theorem strsIn_strC {w:World} {o:Option Addr} {l:List Bs} (h:StrsIn w o l) {a:Addr} (ho:o=some a): ∀j u,(strC l)[j]?=some u→w.cell? (a.add j)=some u:=fun j u hu=>by
 have hj:j<l.length:=by
  have:=(List.getElem?_eq_some_iff.1 hu).1
  unfold strC at this
  simpa using this
 obtain⟨b,f,h1,h2⟩:=h j hj
 rw[ho]at h1
 cases h1
 unfold strC at hu
 simp[hj]at hu
 rw[Addr.add_lit,h2,hu]
theorem step_copyV {ops:Array Oper} {op:Oper} {a:Act} {w:World} {K:Act→World→Prop} {Q:Exit→Act→World→Prop} {E:Prop} (hgd:op.guard=none)(s x:Operand)
 (ho:op.op= .call {callee:= .builtin .append,args:= #[s,x],argTypes:= #[23,23]})
 {B g:Nat} {o:Option Addr} {cap:Nat} {l:List Bs} (hok:(⟨o,cap,l⟩:SRow).ok w) (hl:l.length≤1000000) (hB:B≤g) (hBw:B≤w.heap.size) (hg:Whole w g 9 #[])
 (hs:a.eval s= .slice (some ⟨g,0,none⟩) 0 0) (hx:a.eval x= .slice o l.length cap)
 (hK: ∀o' cap' w',w'.ownsRow B 9 1 (.slice o' l.length cap') l.length (strC l)→Below w.heap.size w w'→K (a.put op.dst (.slice o' l.length cap')) w'):if Region.wanted op (yielded ops a.tmps)=true then Oper.wp Tryz.prog op a w K Q else E:=by
 rw[if_pos (by simp[Region.wanted,hgd])]
 obtain⟨i0,hi0,hz0,hz1,hz2⟩:=info_partsV infoSv
 have hg':w.heap[g]?=some (.cells #[] 9 (0,0)):=hg
 by_cases h0:l.length=0
 ·obtain rfl:=List.eq_nil_of_length_eq_zero h0
  have hsrc:Src Tryz.prog i0.size 23 (.slice o 0 cap) 0 [] w:=by
   cases o with
   |none=>exact Src.ofNil w Tryz.underlying23 cap
   |some q=>exact Src.ofSlice w Tryz.underlying23 q 0 cap [] (by simp) (fun j u h=>by cases h) (fun u h=>by cases h)
  have hrun:=run_append_nothing (P:=Tryz.prog) w 23 23 op.type 9 i0 Tryz.underlying23 hi0 (some ⟨g,0,none⟩) 0 0 (Nat.le_refl _) (.slice o 0 cap) hsrc
  rw[List.length_nil]at hx hK
  unfold Oper.wp
  simp[execOp,ho,resolve,invoke,builtin,hs,hx,hrun,Result.andThen]
  exact hK _ _ _ ⟨rfl,.inr ⟨g,0,#[],rfl,hB,hg',Nat.le_refl _,Nat.zero_le _,rfl,rfl⟩⟩ (Below.refl _ _)
 ·obtain ⟨q,f,hq1,_⟩:=hok.rd 0 (by simp only;omega)
  simp only at hq1
  subst hq1
  obtain⟨v',w',hrun,hown,hgrow⟩:=run_append_arg_grows (P:=Tryz.prog) w 23 op.type 9 i0 (.string ⟨#[]⟩) 1 16 Tryz.underlying23 hi0 hz0 hz1 hz2 rfl (by decide) ⟨g,0,none⟩ 0 0 [] rfl (fun j u h=>by cases h)
   ⟨q,f,none⟩ l.length cap (strC l) (by unfold strC;simp) (strsIn_strC hok.rd rfl) (by omega) (by unfold maxLen;omega) (by omega)
  rw[List.nil_append,Nat.zero_add]at hown
  have hbel:Below w.heap.size w w':=(Below.refl _ w).grown hgrow (Nat.le_refl _) (fun k e=>by cases e)
  obtain⟨o',c',rfl⟩:=row_shapeV hown
  unfold Oper.wp
  simp[execOp,ho,resolve,invoke,builtin,hs,hx,hrun,Result.andThen]
  exact hK _ _ _ (row_base hown hBw) hbel
structure ClnI(B:Nat)(W:World)(gv gr gw:Nat)(cv:Array Value)(k:Int)(t:Bs)(kr:SRow)(o:Option Addr)(c:Nat)(ys:List Vt)(w:World):Prop where
 bl:Below W.heap.size W w
 sz:B≤w.heap.size
 hv:Whole w gv 26 cv
 hr:Whole w gr 26 #[.int .i64 0,.string ⟨#[]⟩,.slice none 0 0,.slice none 0 0]
 hw:Whole w gw 26 #[.int .i64 k,.string (st t),kr.v,.slice o ys.length c]
 ks:w.ownsRow W.heap.size 9 1 kr.v kr.l.length (strC kr.l)
 it:w.ownsRow B 26 4 (.slice o ys.length c) ys.length (vtC ys)
 ch: ∀y∈ys,y.Own 26 9 B (fun g=>(Value.slice o ys.length c).ownBlock≠some g) w
 l0:W.heap.size≤gv∧gv<B
 l1:W.heap.size≤gw∧gw<B
 l2:W.heap.size≤gr∧gr<B
 ne:gv≠gw
 nr:gr≠gw
 nd:(ys.flatMap Vt.rows).Nodup
section
variable {B:Nat} {W w w':World} {gv gr gw:Nat} {cv:Array Value} {k:Int} {t:Bs} {kr:SRow} {o:Option Addr} {c:Nat} {ys:List Vt}
theorem ClnI.grow(h:ClnI B W gv gr gw cv k t kr o c ys w)(hb:Below w.heap.size w w'):ClnI B W gv gr gw cv k t kr o c ys w':=
 ⟨below_trans h.bl hb,Nat.le_trans h.sz hb.size,h.hv.grow hb,h.hr.grow hb,h.hw.grow hb,h.ks.kept (grownBy_below hb none) (by cases kr.v.ownBlock<;>simp),
  h.it.kept (grownBy_below hb none) (by cases (Value.slice o ys.length c).ownBlock<;>simp),fun y hy=>(h.ch y hy).grow hb,h.l0,h.l1,h.l2,h.ne,h.nr,h.nd⟩
theorem ClnI.out(h:ClnI B W gv gr gw cv k t kr o c ys w)(a b d f:Value):(Vt.mk k t kr o c ys).Own 26 9 W.heap.size (fun _=>True) ((((w.setCell ⟨gr,0,none⟩ a).setCell ⟨gr,1,none⟩ b).setCell ⟨gr,2,none⟩ d).setCell ⟨gr,3,none⟩ f):=by
 have hB:W.heap.size≤B:=by have:=h.l2;omega
 have p0:=h.hr.put 0 a
 have p1:=p0.put 1 b
 have p2:=p1.put 2 d
 refine .mk k t kr o c ys (row_setT (row_setT (row_setT (row_setT h.ks h.hr (by decide) a) p0 (by decide) b) p1 (by decide) d) p2 (by decide) f) (fun _ _=>trivial)
  (row_base (row_setV (row_setV (row_setV (row_setV h.it h.l2.2 a) h.l2.2 b) h.l2.2 d) h.l2.2 f) hB) (fun _ _=>trivial)
  (fun _i hi=>(((((h.ch _ (List.getElem_mem hi)).set h.l2.2 a).set h.l2.2 b).set h.l2.2 d).set h.l2.2 f).base hB|>.kind (fun _ _=>trivial))
theorem ClnI.outN(h:ClnI B W gv gr gw cv k t kr o c ys w):(Vt.mk k t kr o c ys).rows.Nodup:=by
 rw[Vt.rows_mk]
 refine List.nodup_append.2 ⟨?_,h.nd,fun a ha b hb e=> ?_⟩
 ·cases (Value.slice o ys.length c).ownBlock<;>simp
 ·subst e
  obtain⟨y,hy,hb⟩:=List.mem_flatMap.1 hb
  exact(h.ch y hy).rowsS a hb (by simpa using ha)
theorem ClnI.item(h:ClnI B W gv gr gw cv k t kr o c ys w) {x:Vt} {o':Option Addr} {c':Nat} (hx:x.Own 26 9 B (fun g=>(Value.slice o ys.length c).ownBlock≠some g) w)(hxn:x.rows.Nodup∧ ∀g∈ys.flatMap Vt.rows,g∉x.rows)
 (hown:w'.ownsRow B 26 4 (.slice o' (ys.length+1) c') (ys.length+1) (vtC ys++[.int .i64 x.k,.string (st x.t),x.ks.v,x.row])) (hg:w.grownBy w' (Value.slice o ys.length c).ownBlock)
 (hat:(Value.slice o' (ys.length+1) c').ownBlock=(Value.slice o ys.length c).ownBlock∨(Value.slice o' (ys.length+1) c').ownBlock=some w.heap.size):
 ClnI B W gv gr gw cv k t kr o' c' (ys++[x]) (w'.setCell ⟨gw,3,none⟩ (.slice o' (ys.length+1) c')):=by
 have hne: ∀g,g<B→some g≠(Value.slice o ys.length c).ownBlock:=fun g hgB e=>by have:=(h.it.lt g e.symm).1;omega
 have hl:(ys++[x]).length=ys.length+1:=by rw[List.length_append,List.length_singleton]
 have hw1:=whole_grownV h.hw hg (hne gw h.l1.2)
 refine⟨?_,?_,(whole_grownV h.hv hg (hne gv h.l0.2)).far h.ne _,(whole_grownV h.hr hg (hne gr h.l2.2)).far h.nr _,?_,row_setT (h.ks.kept hg ?_) hw1 (by decide) _,?_,fun y hy=> ?_,h.l0,h.l1,h.l2,h.ne,h.nr,by rw[List.flatMap_append,List.flatMap_cons,List.flatMap_nil,List.append_nil];exact List.nodup_append.2 ⟨h.nd,hxn.1,fun a ha b hb e=>hxn.2 a ha (e▸hb)⟩⟩
 ·exact below_put (h.bl.grown hg h.bl.size (fun j ej=>by have:=(h.it.lt j ej).1;have:=h.l0;omega)) h.l1.1 _ _
 ·rw[show (w'.setCell ⟨gw,3,none⟩ (.slice o' (ys.length+1) c')).heap.size=w'.heap.size by simp[World.setCell]]
  exact Nat.le_trans h.sz hg.size
 ·have h1:=hw1.put 3 (.slice o' (ys.length+1) c')
  rw[hl]
  exact h1
 ·exact own_apartV h.ks h.it (by decide)
 ·rw[hl,vtC_snoc]
  exact row_setV hown h.l1.2 _
 ·have key: ∀y:Vt,y.Own 26 9 B (fun g=>(Value.slice o ys.length c).ownBlock≠some g) w→y.Own 26 9 B (fun g=>(Value.slice o' (ys++[x]).length c').ownBlock≠some g) (w'.setCell ⟨gw,3,none⟩ (.slice o' (ys.length+1) c')):=fun y hy=>by
   refine Vt.Own.set ((hy.lt.kept hg (fun g e hs=>hs.1 e)).kind (fun g hs=>fun e=> ?_)) h.l1.2 _
   rw[hl]at e
   rcases hat with hat|hat
   ·rw[hat]at e;exact hs.1 e
   ·rw[hat]at e;have:=Option.some.inj e;omega
  rcases List.mem_append.1 hy with hy|hy
  ·exact key y (h.ch y hy)
  ·rw[List.mem_singleton.1 hy];exact key x hx
end
theorem whole_put4S {W:World} {g:Nat} {T:TypeId} {x y z u:Value} (h:Whole W g T #[x,y,z,u])(a b c d:Value):Whole ((((W.setCell ⟨g,0,none⟩ a).setCell ⟨g,1,none⟩ b).setCell ⟨g,2,none⟩ c).setCell ⟨g,3,none⟩ d) g T #[a,b,c,d]:=
 (((h.put 0 a).put 1 b).put 2 c).put 3 d
theorem row_putT4 {W:World} {B e size n:Nat} {v:Value} {xs:List Value} (h:W.ownsRow B e size v n xs) {g:Nat} {T:TypeId} {x y z u:Value} (hw:Whole W g T #[x,y,z,u])(hne:e≠T)(a b c d:Value):((((W.setCell ⟨g,0,none⟩ a).setCell ⟨g,1,none⟩ b).setCell ⟨g,2,none⟩ c).setCell ⟨g,3,none⟩ d).ownsRow B e size v n xs:=
 row_setT (row_setT (row_setT (row_setT h hw hne a) (hw.put 0 a) hne b) ((hw.put 0 a).put 1 b) hne c) (((hw.put 0 a).put 1 b).put 2 c) hne d
theorem below_put4S {B:Nat} {w W:World} (h:Below B w W) {g:Nat} (hg:B≤g)(a b c d:Value):Below B w ((((W.setCell ⟨g,0,none⟩ a).setCell ⟨g,1,none⟩ b).setCell ⟨g,2,none⟩ c).setCell ⟨g,3,none⟩ d):=
 below_put (below_put (below_put (below_put h hg 0 a) hg 1 b) hg 2 c) hg 3 d
theorem whole_drS {W:World} {g:Nat} {T:TypeId} {cs:Array Value} (h:Whole W g T cs):Whole W.drew g T cs:=h
def CutC(W:World)(k:Int)(t:Bs)(kl:List Bs)(gw:Nat)(kr:SRow)(wx:World):Prop:=
 Below W.heap.size W wx∧Whole wx gw 26 #[.int .i64 k,.string (st t),kr.v,.slice none 0 0]∧wx.ownsRow W.heap.size 9 1 kr.v kr.l.length (strC kr.l)∧kr.l=kl
set_option maxHeartbeats 8000000 in
set_option maxRecDepth 1000000 in
theorem cloneN_any: ∀(x:Vt) (W:World),x.Ok W→x.m.weight≤1000000→Calls Tryz.prog 20 #[x.v] W (RemPostN x.m W):=Vt.ind (fun k t ks o c is ih W hok hwt=>by
 obtain⟨ko,kc,kl⟩:=ks
 have hn:=hok.hl
 have hc:=hok.hc
 have hkl:kl.length≤kc:=hok.hks.le
 have hkc:kc≤maxLen:=hok.hks.cp
 unfold maxLen at hc hkc
 rw[Vt.m_mk]at *
 rw[Vt.v_mk']
 simp only[Vl.weight]at hwt
 have hkw:kl.length≤1000000:=by omega
 have hiw:is.length≤1000000:=by
  have h1:=Vl.sizes_length (is.map Vt.m)
  have h2:=Vl.sizes_weights (l:=is.map Vt.m) (fun x _=>x.size_weight)
  rw[List.length_map]at h1
  omega
 have HIH:=hq (fun (x:Vt) (hx:x∈is) V (h:x.Ok V)=>ih x hx V h (by
  have:=Vl.weights_le x.m (List.mem_map.2 ⟨x,hx,rfl⟩)
  omega))
 have HP:Hq (∀(y:Vt) W',(y.Own 26 9 W.heap.size (fun _=>True) W'∧y.rows.Nodup)→y.m= .mk k t kl (is.map Vt.m)→Below W.heap.size W W'→RemPostN (.mk k t kl (is.map Vt.m)) W (.returned y.v) W'):=hq (fun y W' h1 h2 h3=>⟨y,rfl,h1,h2,h3⟩)
 simp only at *
 generalize RemPostN (.mk k t kl (is.map Vt.m)) W=PP at *
 obtain⟨hb0,hw0,hw1⟩:=two_boxes W 26 #[.int .i64 k,.string (st t),.slice ko kl.length kc,.slice o is.length c] #[.int .i64 0,.string ⟨#[]⟩,.slice none 0 0,.slice none 0 0]
 have HOK:=hq hok
 have HB0:=hq hb0
 have HW0:=hq hw0
 have HW1:=hq hw1
 clear hok ih hb0 hw0 hw1 hwt
 go_enter Tryz.func20,Tryz.ntmps20
 go_upto_region 1 with fail
 generalize ((W.alloc (.cells #[.int .i64 k,.string (st t),.slice ko kl.length kc,.slice o is.length c] 26)).alloc (.cells #[.int .i64 0,.string ⟨#[]⟩,.slice none 0 0,.slice none 0 0] 26))=V at *
 obtain⟨c0,c1,c2,c3⟩:=four_cells HW0.o
 have hBV:=HW1.o.lt
 go_cut [3] from 5 to 13 (fun a wx=> ∃(gw:Nat) (kr:SRow),a= .pointer (some ⟨gw,0,none⟩)∧V.heap.size≤gw∧Hq (CutC W k t kl gw kr wx∧Below V.heap.size V wx))
 case first=>
  have HKS:=hq (fun V' (h:Below V.heap.size V V')=>(HOK.o.grow (below_trans HB0.o h)).hks)
  have hbw:=HB0.o.size
  have HC4:=hq (fun V' (h:Below V.heap.size V V')=>four_cells (HW0.o.grow h))
  have hT0:=Below.refl V.heap.size V
  have hA1:=below_alloc V (.cells #[] 9)
  have hA2:=below_alloc V (.cells #[.int .i64 0,.string ⟨#[]⟩,.slice none 0 0,.slice none 0 0] 26)
  have hA3:=below_trans hA1 (below_alloc _ (.cells #[.int .i64 0,.string ⟨#[]⟩,.slice none 0 0,.slice none 0 0] 26))
  have hA4:=below_trans hA2 (below_alloc _ (.cells #[] 9))
  have hE1:=Whole.made V 9 #[]
  have hE3:=hE1.alloc (.cells #[.int .i64 0,.string ⟨#[]⟩,.slice none 0 0,.slice none 0 0] 26)
  have hE4:=Whole.made (V.alloc (.cells #[.int .i64 0,.string ⟨#[]⟩,.slice none 0 0,.slice none 0 0] 26)) 9 #[]
  rw[World.size_alloc]at hE4
  have hZ4:=(Whole.made V 26 #[.int .i64 0,.string ⟨#[]⟩,.slice none 0 0,.slice none 0 0]).alloc (.cells #[] 9)
  have hZ3:=Whole.made (V.alloc (.cells #[] 9)) 26 #[.int .i64 0,.string ⟨#[]⟩,.slice none 0 0,.slice none 0 0]
  rw[World.size_alloc]at hZ3
  clear HP HIH
  go_region_held3 (fun X=>Below V.heap.size V X∧X.cell? ⟨W.heap.size,0,none⟩=some (.int .i64 k)∧X.cell? ⟨W.heap.size,1,none⟩=some (.string (st t))∧X.cell? ⟨W.heap.size,2,none⟩=some (.slice ko kl.length kc)∧X.cell? ⟨W.heap.size,3,none⟩=some (.slice o is.length c))
   ((refine(fun h:Below V.heap.size V _=>⟨h,HC4.o _ h⟩) ?_;first|exact hT0|exact hT0.drew|exact hA1|exact hA1.drew|exact hA2|exact hA2.drew|exact hA3|exact hA3.drew|exact hA4|exact hA4.drew|exact HB6|exact below_trans HB6 (below_alloc _ _)|exact below_put4S HB6 hzs _ _ _ _|exact below_put4S (below_trans HB6 (below_alloc _ _)) HB6.size _ _ _ _|exact below_trans HB6 (below_alloc w6 _)))
   (((first
     |(refine step_copyV rfl (.tmp 9) (.tmp 11) rfl (B:=W.heap.size) (g:=V.heap.size) (o:=ko) (cap:=kc) (l:=kl) (HKS.o _ (by first|exact hA1.drew|exact hA3.drew)) hkw hbw (by first|exact Nat.le_trans hbw hA1.size|exact Nat.le_trans hbw hA3.size) (by first|exact hE1|exact hE3) (by simp[Act.eval]) (by simp[Act.eval]) ?_)
     |(refine step_copyV rfl (.tmp 9) (.tmp 11) rfl (B:=W.heap.size) (g:=V.heap.size+1) (o:=ko) (cap:=kc) (l:=kl) (HKS.o _ (by exact hA4.drew)) hkw (by omega) (by exact Nat.le_trans hbw hA4.size) (by exact hE4) (by simp[Act.eval]) (by simp[Act.eval]) ?_));intro o6 c6 w6 hown6 hb6;have HB6:=(show Below V.heap.size V w6 from by first|exact below_trans hA1.drew hb6|exact below_trans hA3.drew hb6|exact below_trans hA4.drew hb6);(try ((first|(have hz:=Whole.grow (whole_drS hZ3) hb6;have hzs:=Nat.le_succ V.heap.size)|(have hz:=Whole.grow (whole_drS hZ4) hb6;have hzs:=Nat.le_refl V.heap.size));obtain⟨z0,z1,z2,z3⟩:=four_cells hz;have z4:=hz.free 0;have z5:=hz.free 1;have z6:=hz.free 2;have z7:=hz.free 3))))
  all_goals
   have HKV:=hq hown6
   go_wp2_with fail
   go_meet
  ·exact ⟨_,⟨o6,c6,kl⟩,rfl,HB6.size,hq ⟨⟨below_trans HB0.o (below_trans HB6 (below_alloc _ _)),Whole.made _ _ _,HKV.o.alloc _,rfl⟩,below_trans HB6 (below_alloc _ _)⟩⟩
  all_goals
   refine⟨_,⟨o6,c6,kl⟩,rfl,hzs,hq ⟨⟨below_put4S (below_trans HB0.o HB6) (Nat.le_trans hbw hzs) _ _ _ _,whole_put4S hz _ _ _ _,?_,rfl⟩,below_put4S HB6 hzs _ _ _ _⟩⟩
   exact row_putT4 HKV.o hz (by decide) _ _ _ _
 case rest=>
  obtain⟨gw,kr,rfl,hgw,HCUT⟩:=hcut
  have HKL:=hq HCUT.o.1.2.2.2
  have hgl:=HCUT.o.1.2.1.lt
  have HI:=hq (⟨HCUT.o.1.1,Nat.le_refl _,HW0.o.grow HCUT.o.2,HW1.o.grow HCUT.o.2,HCUT.o.1.2.1,HCUT.o.1.2.2.1,World.ownsRow_nil _ _ _ _,(fun y hy=>by cases hy),⟨Nat.le_refl _,by omega⟩,⟨by omega,hgl⟩,⟨by omega,by omega⟩,by omega,by omega,List.nodup_nil⟩:ClnI wc.heap.size W W.heap.size (W.heap.size+1) gw #[.int .i64 k,.string (st t),.slice ko kl.length kc,.slice o is.length c] k t kr none 0 [] wc)
  clear HCUT HW0 HW1 HB0 c0 c1 c2 c3 hBV hgl hgw
  go_wp2_with fail
  generalize hgv:W.heap.size=gv at *
  have HGV:=hq hgv
  clear hgv
  generalize wc.heap.size=B at *
  go_loopw [4] (fun i wr=> ∃(j:Nat) (p:Option Addr) (q:Nat) (ys:List Vt),j≤is.length∧i= .int .i64 (j:Int)∧Hq (ClnI B W gv (gv+1) gw #[.int .i64 k,.string (st t),.slice ko kl.length kc,.slice o is.length c] k t kr p q ys wr)∧Hq (ys.map Vt.m=(is.take j).map Vt.m)) (fun i _=>is.length-(intOf i).toNat)
  case atStart=>exact⟨0,none,0,[],Nat.zero_le _,rfl,HI,hq rfl⟩
  case round=>
   obtain⟨j,p,q,ys,hj,rfl,hI,hys⟩:=hrel
   by_cases h:j<is.length
   ·have hz:(j:Int)<(is.length:Int):=by omega
    have hbw:Below W.heap.size W wr:=hI.o.bl
    obtain⟨b,f,ho,hia⟩:=(HOK.o.grow hbw).at_ j h
    have HC:=hq (fun V (hb:Below wr.heap.size wr V)=>HIH.o is[j] (List.getElem_mem h) V (((HOK.o.grow hbw).item j h).grow hb))
    have HTK:Hq ((is.take (j+1)).map Vt.m=(is.take j).map Vt.m++[is[j].m]):=hq (by rw[List.take_succ_eq_append_getElem h,List.map_append];rfl)
    have HYL:Hq (ys.length=j):=hq (by
     have h1:=congrArg List.length hys.o
     rw[List.length_map,List.length_map,List.length_take]at h1
     omega)
    have hyl:ys.length≤1000000:=by have:=HYL.o;omega
    have hszB:=hI.o.sz
    have HOW:=hq (show∀(V:World) (y:Vt),Below wr.heap.size wr V→y.Own 26 9 wr.heap.size (fun _=>True) V→y.Own 26 9 B (fun g=>(Value.slice p ys.length q).ownBlock≠some g) V from fun V y hb hy=>
     (hy.lt.base hszB).kind (fun g hg=>fun e=>by have h1:=(hI.o.it.lt g e).2;omega))
    have HYR:=hq (fun g (hg:g∈ys.flatMap Vt.rows)=>(show g<wr.drew.heap.size from by
     obtain⟨y,hy,hg⟩:=List.mem_flatMap.1 hg
     exact((hI.o.ch y hy).lt.rowsS g hg).2.2))
    obtain⟨i1,hi1,hy0,hy1,hy2⟩:=info_partsV infoVv
    generalize is[j]=x at *
    subst ho
    have HCC:=hq (fun V (hb:Below wr.heap.size wr V)=>And.intro (four_cells (hI.o.grow hb).hv) (And.intro (hia.grow hb) (four_cells (hI.o.grow hb).hw)))
    obtain⟨⟨c0,c1,c2,c3⟩,⟨a0,a1,a2,a3⟩,d0,d1,d2,d3⟩:=HCC.o wr (Below.refl _ _)
    clear hia
    go_wp2_with fail
    go_region_law (first
     |(refine step_atV rfl (.tmp 22) (.tmp 29) 24 rfl B 26 i1 (.agg #[.int .i64 0,.string ⟨#[]⟩,.slice none 0 0,.slice none 0 0]) 4 72 Tryz.underlying24 hi1 hy0 hy1 hy2 rfl (by decide) (.slice p ys.length q) ys.length (vtC ys) (by simp[Act.eval]) (HI9.o.it.alloc (.cells #[.int .i64 yk,.string (st yt),.slice yko ykl.length ykc,.slice yo yis.length yc] 26)) ⟨w9.heap.size,0,none⟩ 1 1 [.int .i64 yk,.string (st yt),.slice yko ykl.length ykc,.slice yo yis.length yc] (by simp[Act.eval]) rfl (cells_of_new w9 [.int .i64 yk,.string (st yt),.slice yko ykl.length ykc,.slice yo yis.length yc] _) (by simp[Value.oneCell']) (by unfold maxLen;omega) (by omega) (by have h1:=HI9.o.sz;show B≤(w9.alloc _).heap.size;rw[World.size_alloc];omega) ?_
       intro v' w6 hown6 hgrow6 hat6
       obtain⟨g6,c6,rfl⟩:=row_shapeV1 hown6
       have hg6:(w9.alloc (.cells #[.int .i64 yk,.string (st yt),.slice yko ykl.length ykc,.slice yo yis.length yc] 26)).grownBy w6 (Value.slice p ys.length q).ownBlock:=⟨hgrow6.os,hgrow6.tape,hgrow6.output,hgrow6.size,hgrow6.block⟩
       have hw6:=whole_grownV (HI9.o.hw.alloc (.cells #[.int .i64 yk,.string (st yt),.slice yko ykl.length ykc,.slice yo yis.length yc] 26)) hg6 (fun e=>by have h1:=(HI9.o.it.lt _ e.symm).1;have h2:=HI9.o.l1.2;omega)
       have e6a:=hw6.at_ 3
       have e6b:=hw6.free 3)
     |(go_simp
       go_at_call 20
       refine(HC.o wr.drew (Below.refl _ _).drew).mono ?_
       rintro e9 w9 ⟨y,rfl,⟨hyo,hyn⟩,hym,hb9⟩
       have HYN:=hq (And.intro hyn (fun g (hg:g∈ys.flatMap Vt.rows) (hg2:g∈y.rows)=>Nat.lt_irrefl _ (Nat.lt_of_lt_of_le (HYR.o g hg) (hyo.lt.rowsS g hg2).2.1)))
       clear hyn
       obtain⟨yk,yt,⟨yko,ykc,ykl⟩,yo,yc,yis⟩:=y
       have HB9:=hq (show Below wr.heap.size wr w9 from below_trans (Below.refl _ _).drew hb9)
       have HI9:=hq (hI.o.grow HB9.o)
       have HYO:=hq hyo
       have HYM:=hq hym
       obtain⟨q0,q1,q2,q3⟩:=four_cells HI9.o.hw
       have q3a:=(HI9.o.hw.alloc (.cells #[.int .i64 yk,.string (st yt),.slice yko ykl.length ykc,.slice yo yis.length yc] 26)).at_ 3
       clear hyo hym
       rw[Vt.v_mk']))
    all_goals
     have hI6:=(HI9.o.grow (below_alloc w9 (.cells #[.int .i64 yk,.string (st yt),.slice yko ykl.length ykc,.slice yo yis.length yc] 26))).item (x:=Vt.mk yk yt ⟨yko,ykc,ykl⟩ yo yc yis) ((HOW.o w9 _ HB9.o HYO.o).grow (below_alloc w9 _)) HYN.o hown6 hg6 hat6
     have HI6:=hq hI6
     have HYS:=hq (show(ys++[Vt.mk yk yt ⟨yko,ykc,ykl⟩ yo yc yis]).map Vt.m=(is.take (j+1)).map Vt.m by
      rw[HTK.o,List.map_append,hys.o,List.map_cons,List.map_nil,HYM.o])
     clear hI6 hown6 hgrow6 hat6 hg6 hw6 e6a e6b q0 q1 q2 q3 q3a HI9 HYO HYM HYN HYR HB9 HOW HC HIH hys hI a0 a1 a2 a3 c0 c1 c2 c3 d0 d1 d2 d3 HTK HCC
     go_simp
     generalize w6.setCell ⟨gw,3,none⟩ (.slice (some ⟨g6,0,none⟩) (ys.length+1) c6)=W7 at *
     go_wp2_with fail
     go_roundw
     case rel=>exact⟨j+1,some ⟨g6,0,none⟩,c6,ys++[Vt.mk yk yt ⟨yko,ykc,ykl⟩ yo yc yis],h,int_eq (by omega),HI6,HYS⟩
     case measure=>simp[intOf];omega
   ·have hz: ¬(j:Int)<(is.length:Int):=by omega
    have HYE:Hq (ys.map Vt.m=is.map Vt.m):=hq (by rw[hys.o,List.take_of_length_le (by omega)])
    obtain⟨d0,d1,d2,d3⟩:=four_cells hI.o.hw
    obtain⟨r0,r1,r2,r3⟩:=four_cells hI.o.hr
    obtain⟨c0,c1,c2,c3⟩:=four_cells hI.o.hv
    have f0:=hI.o.hr.free 0
    have f1:=hI.o.hr.free 1
    have f2:=hI.o.hr.free 2
    have f3:=hI.o.hr.free 3
    clear hys HIH HOK
    obtain⟨ro,rc,rl⟩:=kr
    unfold SRow.v at d2
    simp only at d2
    have HOUT:=hq (fun a b c d=>hI.o.out a b c d)
    have HOUN:=hq hI.o.outN
    have HL2:=hq hI.o.l2
    have HBL:=hq (fun a b c d=>below_put4S hI.o.bl HL2.o.1 a b c d)
    have HM:=hq (show(Vt.mk k t ⟨ro,rc,rl⟩ p q ys).m= .mk k t kl (is.map Vt.m) from(Vt.m_mk k t ⟨ro,rc,rl⟩ p q ys).trans (by rw[HYE.o,←HKL.o]))
    clear HKL HYE
    go_upto_region 6 with fail
    go_wp2_with fail
    refine bodyPost_ret (v:=(Vt.mk k t ⟨ro,rc,rl⟩ p q ys).v) ?_ rfl ?_
    ·simp[results,Tryz.results20,go_sem,r0,r1,r2,r3,Vt.v_mk']
    ·refine HP.o _ _ ⟨?_,HOUN.o⟩ HM.o ?_
     ·have h1:=HOUT.o (.int .i64 k) (.string (st t)) (.slice ro rl.length rc) (.slice p ys.length q)
      rw[HGV.o]at h1
      exact h1
     ·have h1:=HBL.o (.int .i64 k) (.string (st t)) (.slice ro rl.length rc) (.slice p ys.length q)
      rw[HGV.o]at h1
      exact h1)
theorem clone_any(x:Vt)(W:World)(hok:x.Ok W)(hwt:x.m.weight≤1000000):Calls Tryz.prog 20 #[x.v] W (RemPost x.m W):=(cloneN_any x W hok hwt).mono fun _ _ h=>h.post
end Go.Proofs.YtkafjblfjdpdaaaGreatDoor
