/-
  A TREE OF A CALL'S OWN IS WRITTEN OVER BY ITS OWNER: what stays (the rows, the texts of nodes), what does not (keys, kinds); the walk of Spoil.
  WALK: the document's Clone of a tree.
-/
import Derived.Test.YtkafjblfjdpdaaaGreatDoorVtRD
import Derived.Deep.Upon
set_option maxHeartbeats 4000000
set_option maxRecDepth 1000000
namespace Go.Proofs.YtkafjblfjdpdaaaGreatDoor
open Go.RowKit
def isI(u:Value):Bool:=match u with
 | .int .i64 _=>true
 |_=>false
inductive Vt.Shp (B:Nat) (w:World):Vt->Prop
 |mk (k:Int) (t:Bs) (ks:SRow) (o:Option Addr) (c:Nat) (is:List Vt) (hkl:ks.l.length<=ks.cap) (hkc:ks.cap<=maxLen)
  (hks: ∀i,i<ks.l.length-> ∃(g:Nat) (cur:Array Value),ks.o=some ⟨g,0,none⟩/\B<=g/\w.heap[g]?=some (.cells cur 9 (0,0))/\ ∃s,cur[i]?=some (.string s))
  (hl:is.length<=c) (hc:c<=maxLen)
  (hat: ∀i (h:i<is.length),∃(g:Nat) (cur:Array Value),o=some ⟨g,0,none⟩/\B<=g/\w.heap[g]?=some (.cells cur 26 (0,0))/\(∃z,cur[i*4]?=some (.int .i64 z))/\cur[i*4+1]?=some (.string (st is[i].t))/\cur[i*4+2]?=some is[i].ks.v/\cur[i*4+3]?=some is[i].row)
  (hi: ∀i (h:i<is.length),Vt.Shp B w is[i]):Vt.Shp B w (.mk k t ks o c is)
structure Spl(B:Nat)(w w':World):Prop where
 below:Below B w w'
 str: ∀(g:Nat) (cur:Array Value),w.heap[g]?=some (.cells cur 9 (0,0))-> ∃cur',w'.heap[g]?=some (.cells cur' 9 (0,0))/\ ∀(i:Nat) s,cur[i]?=some (.string s)-> ∃s',cur'[i]?=some (.string s')
 val: ∀(g:Nat) (cur:Array Value),w.heap[g]?=some (.cells cur 26 (0,0))-> ∃cur',w'.heap[g]?=some (.cells cur' 26 (0,0))/\(∀(i:Nat) z,cur[i]?=some (.int .i64 z)-> ∃z',cur'[i]?=some (.int .i64 z'))/\ ∀(i:Nat) u,isI u=false->cur[i]?=some u->cur'[i]?=some u
theorem Spl.trans {B:Nat} {a b c:World} (h:Spl B a b)(h':Spl B b c):Spl B a c where
 below:=h.below.trans h'.below
 str g cur hg:=by
  obtain⟨c1,h1,h2⟩:=h.str g cur hg;obtain⟨c2,h3,h4⟩:=h'.str g c1 h1;refine⟨c2,h3,fun i s hs=> ?_⟩;obtain⟨s1,hs1⟩:=h2 i s hs;exact h4 i s1 hs1
 val g cur hg:=by
  obtain⟨c1,h1,h2,h2'⟩:=h.val g cur hg;obtain⟨c2,h3,h4,h4'⟩:=h'.val g c1 h1;refine⟨c2,h3,fun i z hz=> ?_,fun i u hu hi=>h4' i u hu (h2' i u hu hi)⟩;obtain⟨z1,hz1⟩:=h2 i z hz;exact h4 i z1 hz1
theorem Spl.of {B:Nat} {w w':World} (h:Below w.heap.size w w')(hB:B<=w.heap.size):Spl B w w' where
 below:=h.mono hB
 str g cur hg:=by
  have hl:g<w.heap.size:=(Array.getElem?_eq_some_iff.1 hg).1;exact⟨cur,(h.block g hl).trans hg,fun i s hs=>⟨s,hs⟩⟩
 val g cur hg:=by
  have hl:g<w.heap.size:=(Array.getElem?_eq_some_iff.1 hg).1;exact⟨cur,(h.block g hl).trans hg,fun i z hz=>⟨z,hz⟩,fun i u _ hi=>hi⟩
theorem Spl.setStr {B:Nat} {w:World} {g i:Nat} {cur:Array Value} (hB:B<=g)(hg:w.heap[g]?=some (.cells cur 9 (0,0)))(s:ByteArray):Spl B w (w.setCell ⟨g,i,none⟩ (.string s)) where
 below:=zd9 (Below.refl _ _) hB _ _
 str g' cur' hg':=by
  by_cases e:g'=g
  ·subst e;rw[hg]at hg';obtain rfl:cur=cur':=by injection hg' with h;injection h
   refine⟨_,heap_setCell_same w g' i cur _ _ hg,fun j s' hs'=> ?_⟩;by_cases e2:i=j
   ·subst e2;have hl:=(Array.getElem?_eq_some_iff.1 hs').1;exact⟨s,by rw[Array.getElem?_setIfInBounds];simp[hl]⟩
   ·exact ⟨s',by rw[Array.getElem?_setIfInBounds,if_neg e2];exact hs'⟩
  ·exact ⟨cur',(heap_setCell_other w ⟨g,i,none⟩ g' _ e).trans hg',fun j s' hs'=>⟨s',hs'⟩⟩
 val g' cur' hg':=by
  have e:g'≠g:=fun e=>by
   subst e;rw[hg]at hg';injection hg' with h
   injection h with _ h2 _
   exact absurd h2 (by decide)
  exact⟨cur',(heap_setCell_other w ⟨g,i,none⟩ g' _ e).trans hg',fun j z hz=>⟨z,hz⟩,fun j u _ hj=>hj⟩
theorem Spl.setInt {B:Nat} {w:World} {g i:Nat} {cur:Array Value} (hB:B<=g)(hg:w.heap[g]?=some (.cells cur 26 (0,0)))(hi: ∃z,cur[i]?=some (.int .i64 z))(z:Int):Spl B w (w.setCell ⟨g,i,none⟩ (.int .i64 z)) where
 below:=zd9 (Below.refl _ _) hB _ _
 val g' cur' hg':=by
  by_cases e:g'=g
  ·subst e;rw[hg]at hg';obtain rfl:cur=cur':=by injection hg' with h;injection h
   refine⟨_,heap_setCell_same w g' i cur _ _ hg,fun j s' hs'=> ?_,fun j u hu hj=> ?_⟩
   ·by_cases e2:i=j
    ·subst e2;have hl:=(Array.getElem?_eq_some_iff.1 hs').1;exact⟨z,by rw[Array.getElem?_setIfInBounds];simp[hl]⟩
    ·exact ⟨s',by rw[Array.getElem?_setIfInBounds,if_neg e2];exact hs'⟩
   ·have e2:i≠j:=fun e2=>by
     subst e2;obtain⟨z0,hz0⟩:=hi;rw[hz0]at hj;obtain rfl:=Option.some.inj hj;cases hu
    rw[Array.getElem?_setIfInBounds,if_neg e2];exact hj
  ·exact ⟨cur',(heap_setCell_other w ⟨g,i,none⟩ g' _ e).trans hg',fun j z hz=>⟨z,hz⟩,fun j u _ hj=>hj⟩
 str g' cur' hg':=by
  have e:g'≠g:=fun e=>by
   subst e;rw[hg]at hg';injection hg' with h
   injection h with _ h2 _
   exact absurd h2 (by decide)
  exact⟨cur',(heap_setCell_other w ⟨g,i,none⟩ g' _ e).trans hg',fun j z hz=>⟨z,hz⟩⟩
theorem Vt.Shp.spl {B:Nat} {w w':World} {x:Vt} (h:Vt.Shp B w x)(hs:Spl B w w'):Vt.Shp B w' x:=by
 induction h with
 |mk k t ks o c is hkl hkc hks hl hc hat _ ih=>
  refine .mk k t ks o c is hkl hkc (fun i hi=> ?_) hl hc (fun i hi=> ?_) ih
  ·obtain ⟨g,cur,h1,h2,h3,s,h4⟩:=hks i hi;obtain⟨cur',h5,h6⟩:=hs.str g cur h3;exact⟨g,cur',h1,h2,h5,h6 i s h4⟩
  ·obtain ⟨g,cur,h1,h2,h3,⟨z,h4⟩,h5,h6,h7⟩:=hat i hi;obtain⟨cur',q1,q2,q3⟩:=hs.val g cur h3;exact⟨g,cur',h1,h2,q1,q2 _ z h4,q3 _ _ rfl h5,q3 _ _ rfl h6,q3 _ _ rfl h7⟩
theorem Vt.Own.shp {B:Nat} {S:Nat->Prop} {w:World} {x:Vt} (h:Vt.Own 26 9 B S w x):Vt.Shp B w x:=by
 induction h with
 |mk k t ks o c is hks hkb hrow hrb _ ih=>
  obtain⟨ko,kc,kl⟩:=ks;have hks':w.ownsRow B 9 1 (.slice ko kl.length kc) kl.length (strC kl):=hks;obtain⟨h1,h2⟩:=zP0 hks';obtain⟨h3,h4⟩:=zP0 hrow;refine .mk k t _ o c is h1 h2 (fun i hi=> ?_) h3 h4 (fun i hi=> ?_) ih
  ·simp only at hi ⊢;rcases hks'.2 with ⟨e,h0⟩|⟨g,cap,cur,hv,hb,hg,_,_,_,htk⟩
   ·omega
   ·injection hv with ho
    refine⟨g,cur,ho,hb,hg,st kl[i],?_⟩;have e:(strC kl)[i]?=some (.string (st kl[i])):=by unfold strC;simp[hi]
    rw[←htk,List.getElem?_take]at e;split at e
    ·simpa using e
    ·cases e
  ·rcases hrow.2 with ⟨e,h0⟩|⟨g,cap,cur,hv,hb,hg,_,_,_,htk⟩
   ·omega
   ·injection hv with ho
    obtain⟨q0,q1,q2,q3⟩:=vtC_at is i hi;have key: ∀j u,(vtC is)[j]?=some u->cur[j]?=some u:=fun j u e=>by
     rw[←htk,List.getElem?_take]at e;split at e
     ·simpa using e
     ·cases e
    exact⟨g,cur,ho,hb,hg,⟨_,key _ _ q0⟩,key _ _ q1,key _ _ q2,key _ _ q3⟩
section
variable {B:Nat} {w w':World} {k:Int} {t:Bs} {ks:SRow} {o:Option Addr} {c:Nat} {is:List Vt}
theorem Vt.Shp.caps(h:Vt.Shp B w (.mk k t ks o c is)):ks.l.length<=ks.cap/\ks.cap<=maxLen/\is.length<=c/\c<=maxLen:=by
 cases h with
 |mk _ _ _ _ _ _ hkl hkc hks hl hc hat hi=>exact⟨hkl,hkc,hl,hc⟩
theorem Vt.Shp.key(h:Vt.Shp B w (.mk k t ks o c is)) {i:Nat} (hi:i<ks.l.length): ∃g s,ks.o=some ⟨g,0,none⟩/\B<=g/\w.cell? ⟨g,i,none⟩=some (.string s)/\w.frozen? ⟨g,i,none⟩=false/\ ∀s',Spl B w (w.setCell ⟨g,i,none⟩ (.string s')):=by
 cases h with
 |mk _ _ _ _ _ _ hkl hkc hks hl hc hat _=>
  obtain⟨g,cur,h1,h2,h3,s,h4⟩:=hks i hi;exact⟨g,s,h1,h2,(cell_of_row w g i cur _ (0,0) h3).trans h4,frozen_of_row w g i cur _ h3,fun s'=>Spl.setStr h2 h3 s'⟩
theorem Vt.Shp.item(h:Vt.Shp B w (.mk k t ks o c is)) {i:Nat} (hi:i<is.length): ∃g z,o=some ⟨g,0,none⟩/\B<=g/\w.cell? ⟨g,i*4,none⟩=some (.int .i64 z)/\w.cell? ⟨g,i*4+1,none⟩=some (.string (st is[i].t))/\w.cell? ⟨g,i*4+2,none⟩=some is[i].ks.v/\w.cell? ⟨g,i*4+3,none⟩=some is[i].row/\w.frozen? ⟨g,i*4,none⟩=false/\ ∀z',Spl B w (w.setCell ⟨g,i*4,none⟩ (.int .i64 z')):=by
 cases h with
 |mk _ _ _ _ _ _ hkl hkc hks hl hc hat _=>
  obtain⟨g,cur,h1,h2,h3,⟨z,h4⟩,h5,h6,h7⟩:=hat i hi;have q:=fun j=>cell_of_row w g j cur _ (0,0) h3
  exact⟨g,z,h1,h2,(q _).trans h4,(q _).trans h5,(q _).trans h6,(q _).trans h7,frozen_of_row w g _ cur _ h3,fun z'=>Spl.setInt h2 h3 ⟨z,h4⟩ z'⟩
theorem Vt.Shp.kid(h:Vt.Shp B w (.mk k t ks o c is)) {i:Nat} (hi:i<is.length):Vt.Shp B w is[i]:=by
 cases h with
 |mk _ _ _ _ _ _ hkl hkc hks hl hc hat hi'=>exact hi' i hi
end
structure BoxS(w:World)(g:Nat)(t:Bs)(kv ov:Value):Prop where
 at_: ∃cur,w.heap[g]?=some (.cells cur 26 (0,0))/\(∃z,cur[0]?=some (.int .i64 z))/\cur[1]?=some (.string (st t))/\cur[2]?=some kv/\cur[3]?=some ov
theorem BoxS.spl {B g:Nat} {w w':World} {t:Bs} {kv ov:Value} (h:BoxS w g t kv ov)(hk:isI kv=false)(ho:isI ov=false)(hs:Spl B w w'):BoxS w' g t kv ov:=by
 obtain⟨cur,h1,⟨z,h2⟩,h3,h4,h5⟩:=h.at_;obtain⟨cur',q1,q2,q3⟩:=hs.val g cur h1;exact⟨cur',q1,q2 _ _ h2,q3 _ _ rfl h3,q3 _ _ hk h4,q3 _ _ ho h5⟩
theorem BoxS.cells {g:Nat} {w:World} {t:Bs} {kv ov:Value} (h:BoxS w g t kv ov):w.cell? ⟨g,2,none⟩=some kv/\w.cell? ⟨g,3,none⟩=some ov:=by
 obtain⟨cur,h1,_,h3,h4,h5⟩:=h.at_;exact⟨(cell_of_row w g _ cur _ (0,0) h1).trans h4,(cell_of_row w g _ cur _ (0,0) h1).trans h5⟩
theorem BoxS.made(w:World)(z:Int)(t:Bs)(kv ov:Value):BoxS (w.alloc (.cells #[.int .i64 z,.string (st t),kv,ov] 26)) w.heap.size t kv ov:=
 ⟨_,heap_alloc_new w _,⟨z,rfl⟩,rfl,rfl,rfl⟩
def SpPost(B:Nat)(w:World)(e:Ending)(w':World):Prop:=e= .returned (.tuple #[])/\Spl B w w'
theorem spoilV_any(B:Nat): ∀(x:Vt) (z:Int) (w:World),x.Shp B w->B<=w.heap.size->Calls Tryz.prog 12 #[.agg #[.int .i64 z,.string (st x.t),x.ks.v,x.row]] w (SpPost B w):=Vt.ind (fun k t ks o c is ih z w hsh hB=>by
 obtain⟨ko,kc,kl⟩:=ks;obtain⟨hkl,hkc,hl,hc⟩:=hsh.caps;simp only at hkl hkc;unfold maxLen at hkc hc;have HP:Hq (∀W',Spl B w W'->SpPost B w (.returned (.tuple #[])) W'):=hq (fun W' h=>⟨rfl,h⟩);generalize SpPost B w=PP at *;have hs0:=Spl.of (B:=B) (za0 w (.cells #[.int .i64 z,.string (st t),.slice ko kl.length kc,.slice o is.length c] 26)) hB;have HS0:=hq hs0;have HW0:=hq (BoxS.made w z t (.slice ko kl.length kc) (.slice o is.length c));have HB:=hq (fun W' (h:Spl B w W')=>Nat.le_trans hB h.below.size);have HSH:=hq (fun W' (h:Spl B w W')=>hsh.spl h);have HIH:=hq ih;clear hsh hB hs0 ih;show Calls _ _ #[.agg #[.int .i64 z,.string (st t),.slice ko kl.length kc,.slice o is.length c]] _ _;go_enter Tryz.func12,Tryz.ntmps12
 go_upto_region 1 with fail
 generalize w.heap.size=g at HW0;generalize (w.alloc (.cells #[.int .i64 z,.string (st t),.slice ko kl.length kc,.slice o is.length c] 26))=V0 at *;go_wp2_with fail
 go_loopw [2] (fun i wr=> ∃j:Nat,j<=kl.length/\i= .int .i64 (j:Int)/\Hq (Spl B w wr)/\Hq (BoxS wr g t (.slice ko kl.length kc) (.slice o is.length c))) (fun i _=>kl.length-(intOf i).toNat)
 case atStart=>exact⟨0,Nat.zero_le _,rfl,HS0,HW0⟩
 case round=>
  obtain⟨j,hj,rfl,hs,hbx⟩:=hrel;obtain⟨c2,c3⟩:=hbx.o.cells;by_cases h:j<kl.length
  ·have hz:(j:Int)<(kl.length:Int):=by omega
   obtain⟨b,s0,ho,_,k0,kf,hset⟩:=(HSH.o wr hs.o).key (i:=j) h;simp only at ho;have HS2:=hq (fun s'=>Spl.trans hs.o (hset s'));have HX2:=hq (fun s'=>hbx.o.spl rfl rfl (hset s'));clear hset hs hbx HIH HP;subst ho;go_wp2_with fail
   go_roundw
   case rel=>exact⟨j+1,h,zb5 (by omega),hq (HS2.o _),hq (HX2.o _)⟩
   case measure=>simp[intOf];omega
  ·have hz: ¬(j:Int)<(kl.length:Int):=by omega
   go_wp2_with fail
   clear c2 c3
   go_loopw [3] (fun i wr=> ∃j:Nat,j<=is.length/\i= .int .i64 (j:Int)/\Hq (Spl B w wr)/\Hq (BoxS wr g t (.slice ko kl.length kc) (.slice o is.length c))) (fun i _=>is.length-(intOf i).toNat)
   case atStart=>exact⟨0,Nat.zero_le _,rfl,hs,hbx⟩
   case round=>
    clear hs hbx;obtain⟨i,hi,rfl,hs,hbx⟩:=hrel;obtain⟨c2,c3⟩:=hbx.o.cells;by_cases h:i<is.length
    ·have hzi:(i:Int)<(is.length:Int):=by omega
     obtain⟨b,z1,ho,_,i0,i1,i2,i3,_⟩:=(HSH.o wr hs.o).item (i:=i) h;have HC:=hq (HIH.o is[i] (List.getElem_mem h) z1 wr ((HSH.o wr hs.o).kid h) (HB.o wr hs.o));have HIT:=hq (fun W' (h':Spl B w W')=>(HSH.o W' h').item (i:=i) h);clear HIH HSH;generalize is[i]=x at *;have HO:=hq ho;subst ho;go_wp2_with fail
     refine HC.o.mono ?_;rintro e w2 ⟨rfl,hs2⟩;have HS2:=hq (Spl.trans hs.o hs2);have HX2:=hq (hbx.o.spl rfl rfl hs2);clear HC i0 i1 i2 i3 c2 c3 hs2 hs hbx;obtain⟨c2,c3⟩:=HX2.o.cells;obtain⟨b',z2,ho',_,i0,i1,i2,i3,hf,hset⟩:=HIT.o w2 HS2.o;have HS3:=hq (fun z'=>Spl.trans HS2.o (hset z'));have HX3:=hq (fun z'=>HX2.o.spl rfl rfl (hset z'));injection ho' with ho'
     injection ho' with ho'
     clear hset HIT HP;subst ho';go_wp2_with fail
     go_roundw
     case rel=>exact⟨i+1,h,zb5 (by omega),hq (HS3.o _),hq (HX3.o _)⟩
     case measure=>simp[intOf];omega
    ·have hzi: ¬(i:Int)<(is.length:Int):=by omega
     have HV:=hq (HP.o wr hs.o);clear HP HIH;go_wp2_with fail
     go_end0
     exact HV.o)
theorem spoilO_any {B:Nat} {S:Nat->Prop} {x:Vt} {w:World} (h:x.Own 26 9 B S w)(hB:B<=w.heap.size):Calls Tryz.prog 12 #[x.v] w (SpPost B w):=spoilV_any B x x.k w h.shp hB
theorem zh {w:World} {B e size n:Nat} {v:Value} {xs:List Value} (h:w.ownsRow B e size v n xs) {g i:Nat} {T:TypeId} {cs:Array Value} (hw:Whole w g T cs)(hne:e≠T)(u:Value):(w.setCell ⟨g,i,none⟩ u).ownsRow B e size v n xs:=
 h.kept (row:=some g) ⟨rfl,rfl,rfl,by simp[World.setCell],fun k _ hne=>Below.heap_setCell w ⟨g,i,none⟩ u k (fun e=>hne (by rw[e]))⟩ (by
  cases hv:v.ownBlock with
  |none=>exact .inl rfl
  |some b=>exact .inr (fun e2=>by
   have e3:=Option.some.inj e2;subst e3;obtain⟨cur,hc⟩:=ownT' h b hv;have h2:w.heap[b]?=some (.cells cs T (0,0)):=hw;rw[hc]at h2;cases h2;exact hne rfl))
structure ClnI(B:Nat)(W:World)(gv gr gw:Nat)(cv:Array Value)(k:Int)(t:Bs)(kr:SRow)(o:Option Addr)(c:Nat)(ys:List Vt)(w:World):Prop where
 bl:Below W.heap.size W w
 sz:B<=w.heap.size
 hv:Whole w gv 26 cv
 hr:Whole w gr 26 #[.int .i64 0,.string ⟨#[]⟩,.slice none 0 0,.slice none 0 0]
 hw:Whole w gw 26 #[.int .i64 k,.string (st t),kr.v,.slice o ys.length c]
 ks:w.ownsRow W.heap.size 9 1 kr.v kr.l.length (strC kr.l)
 it:w.ownsRow B 26 4 (.slice o ys.length c) ys.length (vtC ys)
 ch: ∀y∈ys,y.Own 26 9 B (fun g=>(Value.slice o ys.length c).ownBlock≠some g) w
 l0:W.heap.size<=gv/\gv<B
 l1:W.heap.size<=gw/\gw<B
 l2:W.heap.size<=gr/\gr<B
 ne:gv≠gw
 nr:gr≠gw
 nd:(ys.flatMap Vt.rows).Nodup
section
variable {B:Nat} {W w w':World} {gv gr gw:Nat} {cv:Array Value} {k:Int} {t:Bs} {kr:SRow} {o:Option Addr} {c:Nat} {ys:List Vt}
theorem ClnI.grow(h:ClnI B W gv gr gw cv k t kr o c ys w)(hb:Below w.heap.size w w'):ClnI B W gv gr gw cv k t kr o c ys w':=
 ⟨za h.bl hb,Nat.le_trans h.sz hb.size,h.hv.grow hb,h.hr.grow hb,h.hw.grow hb,h.ks.kept (zb9 hb none) (by cases kr.v.ownBlock<;>simp),
  h.it.kept (zb9 hb none) (by cases (Value.slice o ys.length c).ownBlock<;>simp),fun y hy=>(h.ch y hy).grow hb,h.l0,h.l1,h.l2,h.ne,h.nr,h.nd⟩
theorem ClnI.out(h:ClnI B W gv gr gw cv k t kr o c ys w)(a b d f:Value):(Vt.mk k t kr o c ys).Own 26 9 W.heap.size (fun _=>True) ((((w.setCell ⟨gr,0,none⟩ a).setCell ⟨gr,1,none⟩ b).setCell ⟨gr,2,none⟩ d).setCell ⟨gr,3,none⟩ f):=by
 have hB:W.heap.size<=B:=by have:=h.l2;omega
 have p0:=h.hr.put 0 a;have p1:=p0.put 1 b;have p2:=p1.put 2 d;refine .mk k t kr o c ys (zh (zh (zh (zh h.ks h.hr (by decide) a) p0 (by decide) b) p1 (by decide) d) p2 (by decide) f) (fun _ _=>trivial)
  (zr4 (zc8 (zc8 (zc8 (zc8 h.it h.l2.2 a) h.l2.2 b) h.l2.2 d) h.l2.2 f) hB) (fun _ _=>trivial)
  (fun _i hi=>(((((h.ch _ (List.getElem_mem hi)).set h.l2.2 a).set h.l2.2 b).set h.l2.2 d).set h.l2.2 f).base hB|>.kind (fun _ _=>trivial))
theorem ClnI.outN(h:ClnI B W gv gr gw cv k t kr o c ys w):(Vt.mk k t kr o c ys).rows.Nodup:=by
 rw[Vt.rows_mk];refine List.nodup_append.2 ⟨?_,h.nd,fun a ha b hb e=> ?_⟩
 ·cases (Value.slice o ys.length c).ownBlock<;>simp
 ·subst e;obtain⟨y,hy,hb⟩:=List.mem_flatMap.1 hb;exact(h.ch y hy).rowsS a hb (by simpa using ha)
theorem ClnI.item(h:ClnI B W gv gr gw cv k t kr o c ys w) {x:Vt} {o':Option Addr} {c':Nat} (hx:x.Own 26 9 B (fun g=>(Value.slice o ys.length c).ownBlock≠some g) w)(hxn:x.rows.Nodup/\ ∀g∈ys.flatMap Vt.rows,g∉x.rows)
 (hown:w'.ownsRow B 26 4 (.slice o' (ys.length+1) c') (ys.length+1) (vtC ys++[.int .i64 x.k,.string (st x.t),x.ks.v,x.row])) (hg:w.grownBy w' (Value.slice o ys.length c).ownBlock)
 (hat:(Value.slice o' (ys.length+1) c').ownBlock=(Value.slice o ys.length c).ownBlock\/(Value.slice o' (ys.length+1) c').ownBlock=some w.heap.size):
 ClnI B W gv gr gw cv k t kr o' c' (ys++[x]) (w'.setCell ⟨gw,3,none⟩ (.slice o' (ys.length+1) c')):=by
 have hne: ∀g,g<B->some g≠(Value.slice o ys.length c).ownBlock:=fun g hgB e=>by have:=(h.it.lt g e.symm).1;omega
 have hl:(ys++[x]).length=ys.length+1:=by rw[List.length_append,List.length_singleton]
 have hw1:=za6 h.hw hg (hne gw h.l1.2);refine⟨?_,?_,(za6 h.hv hg (hne gv h.l0.2)).far h.ne _,(za6 h.hr hg (hne gr h.l2.2)).far h.nr _,?_,zh (h.ks.kept hg ?_) hw1 (by decide) _,?_,fun y hy=> ?_,h.l0,h.l1,h.l2,h.ne,h.nr,by rw[List.flatMap_append,List.flatMap_cons,List.flatMap_nil,List.append_nil];exact List.nodup_append.2 ⟨h.nd,hxn.1,fun a ha b hb e=>hxn.2 a ha (e▸hb)⟩⟩
 ·exact zd9 (h.bl.grown hg h.bl.size (fun j ej=>by have:=(h.it.lt j ej).1;have:=h.l0;omega)) h.l1.1 _ _
 ·rw[show (w'.setCell ⟨gw,3,none⟩ (.slice o' (ys.length+1) c')).heap.size=w'.heap.size by simp[World.setCell]];exact Nat.le_trans h.sz hg.size
 ·have h1:=hw1.put 3 (.slice o' (ys.length+1) c');rw[hl];exact h1
 ·exact zj1 h.ks h.it (by decide)
 ·rw[hl,zC9];exact zc8 hown h.l1.2 _
 ·have key: ∀y:Vt,y.Own 26 9 B (fun g=>(Value.slice o ys.length c).ownBlock≠some g) w->y.Own 26 9 B (fun g=>(Value.slice o' (ys++[x]).length c').ownBlock≠some g) (w'.setCell ⟨gw,3,none⟩ (.slice o' (ys.length+1) c')):=fun y hy=>by
   refine Vt.Own.set ((hy.lt.kept hg (fun g e hs=>hs.1 e)).kind (fun g hs=>fun e=> ?_)) h.l1.2 _;rw[hl]at e;rcases hat with hat|hat
   ·rw[hat]at e;exact hs.1 e
   ·rw[hat]at e;have:=Option.some.inj e;omega
  rcases List.mem_append.1 hy with hy|hy
  ·exact key y (h.ch y hy)
  ·rw[List.mem_singleton.1 hy];exact key x hx
end
theorem whole_put4S {W:World} {g:Nat} {T:TypeId} {x y z u:Value} (h:Whole W g T #[x,y,z,u])(a b c d:Value):Whole ((((W.setCell ⟨g,0,none⟩ a).setCell ⟨g,1,none⟩ b).setCell ⟨g,2,none⟩ c).setCell ⟨g,3,none⟩ d) g T #[a,b,c,d]:=
 (((h.put 0 a).put 1 b).put 2 c).put 3 d
def CutC(W:World)(k:Int)(t:Bs)(kl:List Bs)(gw:Nat)(kr:SRow)(wx:World):Prop:=
 Below W.heap.size W wx/\Whole wx gw 26 #[.int .i64 k,.string (st t),kr.v,.slice none 0 0]/\wx.ownsRow W.heap.size 9 1 kr.v kr.l.length (strC kr.l)/\kr.l=kl
end Go.Proofs.YtkafjblfjdpdaaaGreatDoor
