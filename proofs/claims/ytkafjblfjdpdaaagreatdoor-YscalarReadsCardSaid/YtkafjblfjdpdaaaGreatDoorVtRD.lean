/-
  WALKS over trees: the document's Size and Depth; few, short, Few.
  WALK: the document's Equal of two trees.
  WALKS: value.walk over whatever is asked; value.Size, value.Depth.
  WALKS: value.asTheyStand; what remake makes.
  WALK: value.remake, whatever the order of a node's items.
-/
import Derived.Test.YtkafjblfjdpdaaaGreatDoorBas
import Derived.Test.YtkafjblfjdpdaaaGreatDoorProg
import Derived.Deep.RegionHeld3
import Derived.Deep.CutRange
import Derived.Deep.RegionLaw
set_option maxHeartbeats 8000000
set_option maxRecDepth 1000000
namespace Go.Proofs.YtkafjblfjdpdaaaGreatDoor
open Go.RowKit
def IPost(n:Int)(w:World)(e:Ending)(w':World):Prop:=e= .returned (.int .i64 n)/\Below w.heap.size w w'
def zm9(b:Bool)(w:World)(e:Ending)(w':World):Prop:=e= .returned (.bool b)/\Below w.heap.size w w'
theorem za1 {w:World} {g:Nat} {t:TypeId} {a b c d:Value} (h:Whole w g t #[a,b,c,d]):
 w.cell? ⟨g,0,none⟩=some a/\w.cell? ⟨g,1,none⟩=some b/\w.cell? ⟨g,2,none⟩=some c/\w.cell? ⟨g,3,none⟩=some d:=⟨h.at_ 0,h.at_ 1,h.at_ 2,h.at_ 3⟩
theorem sizes_take {l:List Vt} {j:Nat} (h:j<l.length):Vl.sizes ((l.take (j+1)).map Vt.m)=Vl.sizes ((l.take j).map Vt.m)+l[j].m.size:=by
 rw[List.take_succ_eq_append_getElem h,List.map_append,Vl.sizes_append];simp[Vl.sizes]
theorem sizes_part(l:List Vt)(j:Nat):Vl.sizes ((l.take j).map Vt.m)<=Vl.sizes (l.map Vt.m):=by
 have h:l.map Vt.m=(l.take j).map Vt.m++(l.drop j).map Vt.m:=by rw[←List.map_append,List.take_append_drop]
 rw[h,Vl.sizes_append];omega
def FewP(x:Vl)(left deep:Int)(w:World)(e:Ending)(w':World):Prop:=
 ∃n:Int,e= .returned (.int .i64 n)/\(-9223372036854775808<=n/\n<=left)/\(0<=n->n+(x.weight:Int)=left/\deep+(x.depth:Int)<=61)/\Below w.heap.size w w'
def Sht(v:Vl):Prop:=v.t.length<=2048/\ ∀x∈v.ks,x.length<=1024
def ShtP(x:Vl)(w:World)(e:Ending)(w':World):Prop:= ∃v:Bool,e= .returned (.bool v)/\(v=true->x.All Sht)/\Below w.heap.size w w'
structure FewV(x:Vl)(most:Nat):Prop where
 wt:x.weight<=most
 dp:x.depth<=61
 sh:x.All Sht
def FewPost(x:Vl)(most:Nat)(w:World)(e:Ending)(w':World):Prop:= ∃v:Bool,e= .returned (.bool v)/\(v=true->FewV x most)/\Below w.heap.size w w'
theorem zC6 {B:Nat} {a w:World} (h:Below B a w)(n:Nat):Below B a (w.drewN n):=⟨h.os,h.tape,h.output,h.size,h.block⟩
def EqPost(a b:Vl)(w:World)(e:Ending)(w':World):Prop:= ∃v:Bool,e= .returned (.bool v)/\(v=true↔a=b)/\Below w.heap.size w w'
theorem two_boxes(w:World)(T:TypeId)(A B:Array Value):Below w.heap.size w ((w.alloc (.cells A T)).alloc (.cells B T))/\Whole ((w.alloc (.cells A T)).alloc (.cells B T)) w.heap.size T A/\Whole ((w.alloc (.cells A T)).alloc (.cells B T)) (w.heap.size+1) T B:=by
 have h1:=Whole.made (w.alloc (.cells A T)) T B;rw[World.size_alloc]at h1;exact⟨(za0 w _).alloc (by rw[World.size_alloc];omega) _,(Whole.made w T A).alloc _,h1⟩
theorem zB6 {α β:Type} (f:α->β) {l l':List α} {i:Nat} (h:i<l.length)(h':i<l'.length)(e:(l.take i).map f=(l'.take i).map f)(e2:f l[i]=f l'[i]):(l.take (i+1)).map f=(l'.take (i+1)).map f:=by
 rw[List.take_succ_eq_append_getElem h,List.take_succ_eq_append_getElem h',List.map_append,List.map_append,e];simp only[List.map_cons,List.map_nil,e2]
theorem ne_at {α β:Type} (f:α->β) {l l':List α} {i:Nat} (h:i<l.length)(h':i<l'.length)(e2:f l[i]≠f l'[i]):l.map f≠l'.map f:=fun e=>by
 have h1:(l.map f)[i]?=(l'.map f)[i]?:=by rw[e]
 rw[List.getElem?_map,List.getElem?_map,List.getElem?_eq_getElem h,List.getElem?_eq_getElem h']at h1;exact e2 (Option.some.inj h1)
theorem zH9: ∀(x y:Vt) (w:World),x.Ok w->y.Ok w->Calls Tryz.prog 11 #[x.v,y.v] w (EqPost x.m y.m w):=Vt.ind (fun k t ks o c is ih y w hok hok'=>by
 obtain⟨ko,kc,kl⟩:=ks;obtain⟨k',t',⟨ko',kc',kl'⟩,o',c',is'⟩:=y;have hn:=hok.hl;have hc:=hok.hc;have hkl:kl.length<=kc:=hok.hks.le;have hkc:kc<=maxLen:=hok.hks.cp;have hn':=hok'.hl;have hc':=hok'.hc;have hkl':kl'.length<=kc':=hok'.hks.le;have hkc':kc'<=maxLen:=hok'.hks.cp;unfold maxLen at hc hkc hc' hkc';rw[Vt.m_mk,Vt.m_mk,Vt.v_mk',Vt.v_mk'];simp only;have HF:Hq (∀W',(k=k'->t=t'->kl=kl'->is.map Vt.m=is'.map Vt.m->False)->Below w.heap.size w W'->EqPost (.mk k t kl (is.map Vt.m)) (.mk k' t' kl' (is'.map Vt.m)) w (.returned (.bool false)) W'):=hq (fun W' h h3=>⟨false,rfl,⟨fun h=>(by cases h),fun e=>by
  injection e with e1 e2 e3 e4
  exact(h e1 e2 e3 e4).elim⟩,h3⟩)
 have HP:Hq (∀W',k=k'->t=t'->kl=kl'->is.map Vt.m=is'.map Vt.m->Below w.heap.size w W'->EqPost (.mk k t kl (is.map Vt.m)) (.mk k' t' kl' (is'.map Vt.m)) w (.returned (.bool true)) W'):=hq (fun W' h1 h2 h3 h4 h5=>⟨true,rfl,⟨fun _=>by rw[h1,h2,h3,h4],fun _=>rfl⟩,h5⟩);have HIH:=hq ih;generalize EqPost (.mk k t kl (is.map Vt.m)) (.mk k' t' kl' (is'.map Vt.m)) w=PP at *;obtain⟨hb0,hw0,hw1⟩:=two_boxes w 26 #[.int .i64 k,.string (st t),.slice ko kl.length kc,.slice o is.length c] #[.int .i64 k',.string (st t'),.slice ko' kl'.length kc',.slice o' is'.length c'];have HOK:=hq (hok.grow hb0);have HOK':=hq (hok'.grow hb0);have HW0:=hq hw0;have HW1:=hq hw1;have HB0:=hq hb0;clear hok hok' ih hb0 hw0 hw1;go_enter Tryz.func11,Tryz.ntmps11
 go_upto_region 1 with fail
 generalize w.heap.size=g at HW0 HW1;generalize ((w.alloc (.cells #[.int .i64 k,.string (st t),.slice ko kl.length kc,.slice o is.length c] 26)).alloc (.cells #[.int .i64 k',.string (st t'),.slice ko' kl'.length kc',.slice o' is'.length c'] 26))=V0 at *;have hVg:=hq (fun wr (hb:Below V0.heap.size V0 wr)=>za1 (HW0.o.grow hb));have hVh:=hq (fun wr (hb:Below V0.heap.size V0 wr)=>za1 (HW1.o.grow hb));obtain⟨c0,c1,c2,c3⟩:=hVg.o V0 (Below.refl _ _);obtain⟨d0,d1,d2,d3⟩:=hVh.o V0 (Below.refl _ _);by_cases hk:k=k'
 case neg=>
  have hz:(k !=k')=true:=bne_iff_ne.2 hk;have HV:=hq (HF.o V0 (fun h _ _ _=>hk h) HB0.o);clear HP HF HIH hk;go_wp2_with fail
  exact HV.o
 by_cases ht:t=t'
 case neg=>
  have hz:(k !=k')=false:=by rw[bne,beq_iff_eq.2 hk];rfl
  have hz2:(t==t')=false:=beq_eq_false_iff_ne.2 ht;have HV:=hq (HF.o V0 (fun _ h _ _=>ht h) HB0.o);clear HP HF HIH hk ht;go_wp2_with fail
  exact HV.o
 by_cases hkll:kl.length=kl'.length
 case neg=>
  have hz:(k !=k')=false:=by rw[bne,beq_iff_eq.2 hk];rfl
  have hz2:(t==t')=true:=beq_iff_eq.2 ht;have hz3:((kl.length:Int) !=(kl'.length:Int))=true:=bne_iff_ne.2 (by omega);have HV:=hq (HF.o V0 (fun _ _ h _=>hkll (by rw[h])) HB0.o);clear HP HF HIH hk ht hkll;go_wp2_with fail
  exact HV.o
 by_cases hill:is.length=is'.length
 case neg=>
  have hz:(k !=k')=false:=by rw[bne,beq_iff_eq.2 hk];rfl
  have hz2:(t==t')=true:=beq_iff_eq.2 ht;have hz3:((kl.length:Int) !=(kl'.length:Int))=false:=by rw[bne,beq_iff_eq.2 (by omega)];rfl
  have hz4:((is.length:Int) !=(is'.length:Int))=true:=bne_iff_ne.2 (by omega);have HV:=hq (HF.o V0 (fun _ _ _ h=>hill (by have:=congrArg List.length h;simpa using this)) HB0.o);clear HP HF HIH hk ht hkll hill;go_wp2_with fail
  exact HV.o
 have hz:(k !=k')=false:=by rw[bne,beq_iff_eq.2 hk];rfl
 have hz2:(t==t')=true:=beq_iff_eq.2 ht;have hz3:((kl.length:Int) !=(kl'.length:Int))=false:=by rw[bne,beq_iff_eq.2 (by omega)];rfl
 have hz4:((is.length:Int) !=(is'.length:Int))=false:=by rw[bne,beq_iff_eq.2 (by omega)];rfl
 have HF1:=hq (fun W' (h:kl=kl'->is.map Vt.m=is'.map Vt.m->False)=>HF.o W' (fun _ _ h3 h4=>h h3 h4));have HP1:=hq (fun W'=>HP.o W' hk ht);have HKL:=hq hkll;have HIL:=hq hill;clear HP HF hk ht hkll hill;go_wp2_with fail
 clear hz hz2 hz3 hz4 c0 c1 c2 c3 d0 d1 d2 d3
 go_loopw [5] (fun i wr=> ∃j:Nat,j<=kl.length/\i= .int .i64 (j:Int)/\Hq ((kl.take j).map id=(kl'.take j).map id)/\Hq (Below V0.heap.size V0 wr)) (fun i _=>kl.length-(intOf i).toNat)
 case atStart=>exact⟨0,Nat.zero_le _,rfl,hq rfl,hq (Below.refl _ _)⟩
 case round=>
  obtain⟨j,hj,rfl,hp,hb⟩:=hrel;obtain⟨c0,c1,c2,c3⟩:=hVg.o wr hb.o;obtain⟨d0,d1,d2,d3⟩:=hVh.o wr hb.o;by_cases h:j<kl.length
  ·have h':j<kl'.length:=by have:=HKL.o;omega
   have hzj:(j:Int)<(kl.length:Int):=by omega
   have hzj':(j:Int)<(kl'.length:Int):=by omega
   obtain⟨b,f,ho,i0⟩:=(HOK.o.grow hb.o).hks.rd j h;obtain⟨b',f',ho',i0'⟩:=(HOK'.o.grow hb.o).hks.rd j h';simp only at ho i0 ho' i0';have HN:=hq (zB6 id h h' hp.o);have HE:=hq (@ne_at _ _ id kl kl' j h h');simp only[id]at HN HE;clear hp;generalize kl[j]=p at *;generalize kl'[j]=q at *;subst ho ho';by_cases hpq:p=q
   ·have e1:(p==q)=true:=beq_iff_eq.2 hpq;have HN2:=hq (HN.o hpq);have HD:=hq (fun n=>zC6 hb.o n);clear HN HE hpq HIH HF1 HP1;go_wp2_with fail
    go_quiet (fail)
    go_wp2_with fail
    go_roundw
    case rel=>exact⟨j+1,h,zb5 (by omega),HN2,hq (HD.o _)⟩
    case measure=>simp[intOf];omega
   ·have e1:(p==q)=false:=beq_eq_false_iff_ne.2 hpq;have HV:=hq (fun n=>HF1.o (wr.drewN n) (fun e _=>HE.o hpq (by rw[e])) (za HB0.o (zC6 hb.o n)));clear HN HE hpq HIH HF1 HP1;go_wp2_with fail
    go_quiet (fail)
    go_wp2_with fail
    exact HV.o _
  ·have hzj: ¬(j:Int)<(kl.length:Int):=by omega
   have HKE:Hq (kl=kl'):=hq (by
    have h1:=hp.o;rw[List.take_of_length_le (by omega),List.take_of_length_le (by have:=HKL.o;omega)]at h1;simpa using h1)
   clear hp;go_wp2_with fail
   clear c0 c1 c2 c3 d0 d1 d2 d3;obtain⟨wq,hwq⟩: ∃wq,wq=wr:=⟨_,rfl⟩;subst hwq;have HBQ:=hq hb.o
   go_loopw [6,7] (fun i _ wr=> ∃j:Nat,j<=is.length/\i= .int .i64 (j:Int)/\Hq ((is.take j).map Vt.m=(is'.take j).map Vt.m)/\Hq (Below V0.heap.size V0 wr)) (fun i _ _=>is.length-(intOf i).toNat)
   case atStart=>exact⟨0,Nat.zero_le _,rfl,hq rfl,HBQ⟩
   case round=>
    obtain⟨i,hi,rfl,hp,hb⟩:=hrel;obtain⟨c0,c1,c2,c3⟩:=hVg.o wr hb.o;obtain⟨d0,d1,d2,d3⟩:=hVh.o wr hb.o;by_cases h:i<is.length
    ·have h':i<is'.length:=by have:=HIL.o;omega
     have hzi:(i:Int)<(is.length:Int):=by omega
     have hzi':(i:Int)<(is'.length:Int):=by omega
     obtain⟨b,f,ho,hia⟩:=(HOK.o.grow hb.o).at_ i h;obtain⟨b',f',ho',hib⟩:=(HOK'.o.grow hb.o).at_ i h';have HN:=hq (zB6 Vt.m h h' hp.o);have HE:=hq (@ne_at _ _ Vt.m is is' i h h');have HC:=hq (fun W (hbb:Below wr.heap.size wr W)=>HIH.o is[i] (List.getElem_mem h) is'[i] W (((HOK.o.grow hb.o).item i h).grow hbb) (((HOK'.o.grow hb.o).item i h').grow hbb));clear hp HIH;generalize is[i]=p at *;generalize is'[i]=q at *;subst ho ho';have HS:=hq (fun V (hbb:Below wr.heap.size wr V)=>(⟨hbb,(hVg.o V (za hb.o hbb)).2.2.2,(hVh.o V (za hb.o hbb)).2.2.2,(hia.grow hbb).c0,(hia.grow hbb).c1,(hia.grow hbb).c2,(hia.grow hbb).c3,(hib.grow hbb).c0,(hib.grow hbb).c1,(hib.grow hbb).c2,(hib.grow hbb).c3⟩:Below wr.heap.size wr V/\V.cell? ⟨g,3,none⟩=some (.slice (some ⟨b,f,none⟩) is.length c)/\V.cell? ⟨g+1,3,none⟩=some (.slice (some ⟨b',f',none⟩) is'.length c')/\V.cell? ⟨b,f+i*4,none⟩=some (.int .i64 p.k)/\V.cell? ⟨b,f+i*4+1,none⟩=some (.string (st p.t))/\V.cell? ⟨b,f+i*4+2,none⟩=some p.ks.v/\V.cell? ⟨b,f+i*4+3,none⟩=some p.row/\V.cell? ⟨b',f'+i*4,none⟩=some (.int .i64 q.k)/\V.cell? ⟨b',f'+i*4+1,none⟩=some (.string (st q.t))/\V.cell? ⟨b',f'+i*4+2,none⟩=some q.ks.v/\V.cell? ⟨b',f'+i*4+3,none⟩=some q.row));obtain⟨a0,a1,a2,a3⟩:=hia;obtain⟨b0,b1,b2,b3⟩:=hib;go_wp2_with fail
     go_region_held3 (fun V=>Below wr.heap.size wr V/\V.cell? ⟨g,3,none⟩=some (.slice (some ⟨b,f,none⟩) is.length c)/\V.cell? ⟨g+1,3,none⟩=some (.slice (some ⟨b',f',none⟩) is'.length c')/\V.cell? ⟨b,f+i*4,none⟩=some (.int .i64 p.k)/\V.cell? ⟨b,f+i*4+1,none⟩=some (.string (st p.t))/\V.cell? ⟨b,f+i*4+2,none⟩=some p.ks.v/\V.cell? ⟨b,f+i*4+3,none⟩=some p.row/\V.cell? ⟨b',f'+i*4,none⟩=some (.int .i64 q.k)/\V.cell? ⟨b',f'+i*4+1,none⟩=some (.string (st q.t))/\V.cell? ⟨b',f'+i*4+2,none⟩=some q.ks.v/\V.cell? ⟨b',f'+i*4+3,none⟩=some q.row)
      (first|exact HS.o _ ((Below.refl _ _).drew)|exact hT2)
      ((go_at_call 11;refine(HC.o _ (And.left (by assumption))).mono ?_;rintro e' w9 ⟨v,rfl,hv,hb9⟩;have hT2:=HS.o w9 (za (And.left (by assumption)) hb9)))
     have HB2:=hq (za hb.o hT2.1);clear hT2 HS HC a0 a1 a2 a3 b0 b1 b2 b3 c0 c1 c2 c3 d0 d1 d2 d3;cases v with
     |true=>
      have HN2:=hq (HN.o (hv.1 rfl));clear HN HE hv HF1 HP1;go_wp2_with fail
      go_roundw
      case rel=>exact⟨i+1,h,zb5 (by omega),HN2,HB2⟩
      case measure=>simp[intOf];omega
     |false=>
      have HV:=hq (HF1.o _ (fun _=>HE.o (fun e=>by have:=hv.2 e;cases this)) (za HB0.o HB2.o));clear HN HE hv HF1 HP1;go_wp2_with fail
      exact HV.o
    ·have hzi: ¬(i:Int)<(is.length:Int):=by omega
     have HV:=hq (HP1.o wr HKE.o (by
      have h1:=hp.o;rwa [List.take_of_length_le (by omega),List.take_of_length_le (by have:=HIL.o;omega)]at h1) (za HB0.o hb.o))
     clear HF1 HP1 HIH hp;go_wp2_with fail
     exact HV.o)
structure Kp(C:Nat->Prop)(w w':World):Prop where
 os:w'.os=w.os
 tape:w'.tape=w.tape
 output:w'.output=w.output
 size:w.heap.size<=w'.heap.size
 block: ∀k,k<w.heap.size-> ¬C k->w'.heap[k]?=w.heap[k]?
section
variable {C:Nat->Prop} {w w' w'':World}
theorem Kp.refl(C:Nat->Prop)(w:World):Kp C w w:=⟨rfl,rfl,rfl,Nat.le_refl _,fun _ _ _=>rfl⟩
theorem Kp.trans(h:Kp C w w')(h':Kp C w' w''):Kp C w w'':=
 ⟨h'.os.trans h.os,h'.tape.trans h.tape,h'.output.trans h.output,Nat.le_trans h.size h'.size,fun k hk hc=>(h'.block k (Nat.lt_of_lt_of_le hk h.size) hc).trans (h.block k hk hc)⟩
theorem Kp.of(h:Below w.heap.size w w'):Kp C w w':=⟨h.os,h.tape,h.output,h.size,fun k hk _=>h.block k hk⟩
theorem Kp.below {B:Nat} {a:World} (h:Kp C w w')(hB: ∀k,C k->B<=k)(hb:Below B a w)(hs:B<=w.heap.size):Below B a w':=
 ⟨h.os.trans hb.os,h.tape.trans hb.tape,h.output.trans hb.output,Nat.le_trans hb.size h.size,fun k hk=>(h.block k (Nat.lt_of_lt_of_le hk hs) (fun hc=>by have:=hB k hc;omega)).trans (hb.block k hk)⟩
theorem Kp.whole {g:Nat} {t:TypeId} {cs:Array Value} (h:Kp C w w')(hw:Whole w g t cs)(hg: ¬C g):Whole w' g t cs:=(h.block g hw.lt hg).trans hw
theorem Kp.mono {C':Nat->Prop} (h:Kp C w w')(hc: ∀k,C k->C' k):Kp C' w w':=⟨h.os,h.tape,h.output,h.size,fun k hk hn=>h.block k hk (fun e=>hn (hc k e))⟩
theorem Kp.set(w:World)(p:Addr)(u:Value)(hp:C p.block):Kp C w (w.setCell p u):=
 ⟨rfl,rfl,rfl,by simp[World.setCell],fun k _ hn=>Below.heap_setCell w p u k (fun e=>hn (by rw[e];exact hp))⟩
end
theorem zv6(d:Nat)(a b:List Vl):Vl.visitsL d (a++b)=Vl.visitsL d a++Vl.visitsL d b:=by
 induction a with
 |nil=>simp[Vl.visitsL]
 |cons v l ih=>simp only[List.cons_append,Vl.visitsL,ih,List.append_assoc]
structure Asks(w0:World)(C:Nat->Prop)(m0:Nat)(I:List (Vl×Nat)->World->Prop):Prop where
 c0: ∀k,C k->w0.heap.size<=k/\k<m0
 below: ∀pre W,I pre W->Below w0.heap.size w0 W/\m0<=W.heap.size
 grow: ∀pre W W',I pre W->Below W.heap.size W W'->I pre W'
def zx3(C:Nat->Prop)(I:List (Vl×Nat)->World->Prop)(b:Bool)(pre:List (Vl×Nat))(w:World)(e:Ending)(w':World):Prop:=e= .returned (.bool b)/\I pre w'/\Kp C w w'
theorem walk_any {w0:World} {C:Nat->Prop} {m0 F:Nat} {caps:Array Value} {I:List (Vl×Nat)->World->Prop} (Q:Vl->Prop)(hA:Asks w0 C m0 I)(ok:List (Vl×Nat)->Vl×Nat->Bool)
 (hcf: ∀(args:Array Value) (w:World),(callFunc F args).run Tryz.prog w= .ok (.enter F args) w)
 (hask: ∀(x:Vt) (d:Nat) (pre:List (Vl×Nat)) (W:World),x.Ok w0->x.m.All Q->I pre W->d<=4611686018427387904->pre.length<4611686018427387904->Calls Tryz.prog F (#[x.v,.int .i64 (d:Int)]++caps) W (zx3 C I (ok pre (x.m,d)) (pre++[(x.m,d)]) W)):
 ∀(x:Vt) (d:Nat) (pre:List (Vl×Nat)) (W:World),x.Ok w0->x.m.All Q->I pre W->d+x.m.depth<=4611686018427387904->pre.length+x.m.size<=4611686018427387904->Calls Tryz.prog 101 #[x.v,.int .i64 (d:Int),.func (.func F) #[] caps] W (zx3 C I (goV ok pre (x.m.visits d)).1 (goV ok pre (x.m.visits d)).2 W):=Vt.ind (fun k t ks o c is ih d pre W hok hal hI hd hz=>by
 obtain⟨ko,kc,kl⟩:=ks;have hn:=hok.hl;have hc:=hok.hc;have HASK:=hq (fun W' (hI':I pre W')=>hask _ d pre W' hok hal hI' (by omega) (by have:=Vl.size_pos (Vt.mk k t ⟨ko,kc,kl⟩ o c is).m;omega));unfold maxLen at hc;rw[Vt.m_mk]at *;rw[Vt.v_mk']at *;simp only at *;simp only[Vl.visits,Vl.depth,Vl.size]at *;have hali:=Vl.All.items hal;generalize hX:Vl.mk k t kl (is.map Vt.m)=X at *;have HP:Hq (∀(b:Bool) q W',goV ok pre ((X,d)::Vl.visitsL (d+1) (is.map Vt.m))=(b,q)->I q W'->Kp C W W'->zx3 C I (goV ok pre ((X,d)::Vl.visitsL (d+1) (is.map Vt.m))).1 (goV ok pre ((X,d)::Vl.visitsL (d+1) (is.map Vt.m))).2 W (.returned (.bool b)) W'):=hq (fun b q W' h h1 h2=>by rw[h];exact⟨rfl,h1,h2⟩);have HIH:=hq (fun (x:Vt) (hx:x∈is) p W' (h:x.Ok w0) (h2:I p W') (h3:p.length+x.m.size<=4611686018427387904)=>ih x hx (d+1) p W' h (hali x.m (List.mem_map.2 ⟨x,hx,rfl⟩)) h2 (by have:=Vl.depths_le x.m (List.mem_map.2 ⟨x,hx,rfl⟩);omega) h3);have HZ:=hq hz;have HG:Hq (goV ok pre ((X,d)::Vl.visitsL (d+1) (is.map Vt.m))=if ok pre (X,d)=true then goV ok (pre++[(X,d)]) (Vl.visitsL (d+1) (is.map Vt.m)) else(false,pre++[(X,d)])):=hq rfl;generalize zx3 C I (goV ok pre ((X,d)::Vl.visitsL (d+1) (is.map Vt.m))).1 (goV ok pre ((X,d)::Vl.visitsL (d+1) (is.map Vt.m))).2 W=PP at *;generalize goV ok pre ((X,d)::Vl.visitsL (d+1) (is.map Vt.m))=GV at *;have hdz:(d:Int)<=4611686018427387904:=by omega
 have hb0:=za0 W (.cells #[.int .i64 k,.string (st t),.slice ko kl.length kc,.slice o is.length c] 26);have HI0:=hq (hA.grow _ _ _ hI hb0);have HW0:=hq (Whole.made W 26 #[.int .i64 k,.string (st t),.slice ko kl.length kc,.slice o is.length c]);have HB0:=hq (Kp.of (C:=C) hb0);have HNC:Hq (¬C W.heap.size):=hq (fun hc=>by have h1:=(hA.c0 _ hc).2;have h2:=(hA.below _ _ hI).2;omega);have HOK:=hq hok;have HA:=hq hA;clear hok ih hb0 hI hask hd hX hA hz hal hali;go_enter Tryz.func101,Tryz.ntmps101
 go_upto_region 1 with fail
 generalize W.heap.size=g at HW0 HNC;generalize (W.alloc (.cells #[.int .i64 k,.string (st t),.slice ko kl.length kc,.slice o is.length c] 26))=V0 at *;have hVg:=hq (fun wr (hb:Kp C V0 wr)=>za1 (hb.whole HW0.o HNC.o));obtain⟨c0,c1,c2,c3⟩:=hVg.o V0 (Kp.refl _ _);go_wp2_with fail
 refine(HASK.o V0 HI0.o).mono ?_;rintro e w2 ⟨rfl,hI2,hk2⟩;have HK2:=hq hk2;clear HASK;by_cases hok1:ok pre (X,d)=true
 case neg=>
  have hf:ok pre (X,d)=false:=by simpa using hok1
  have HV:=hq (HP.o false _ w2 (by rw[HG.o,if_neg hok1]) hI2 (HB0.o.trans HK2.o));rw[hf];clear HP HG hok1 hf hk2 hI2 HIH;go_wp2_with fail
  exact HV.o
 case pos=>
  have HG1:=hq (HG.o.trans (if_pos hok1));rw[hok1];obtain⟨d0,d1,d2,d3⟩:=hVg.o w2 hk2;clear HG hok1 c0 c1 c2 c3;go_wp2_with fail
  clear d0 d1 d2 d3;have HI2:=hq hI2;clear hk2 hI2
  go_loopw [16] (fun i wr=> ∃(j:Nat) (q:List (Vl×Nat)),j<=is.length/\i= .int .i64 (j:Int)/\Hq (goV ok (pre++[(X,d)]) (Vl.visitsL (d+1) ((is.take j).map Vt.m))=(true,q))/\Hq (I q wr)/\Hq (Kp C V0 wr)) (fun i _=>is.length-(intOf i).toNat)
  case atStart=>exact⟨0,pre++[(X,d)],Nat.zero_le _,rfl,hq rfl,HI2,HK2⟩
  case round=>
   obtain⟨j,q,hj,rfl,hp,hI3,hk3⟩:=hrel;obtain⟨c0,c1,c2,c3⟩:=hVg.o wr hk3.o;by_cases h:j<is.length
   ·have hz:(j:Int)<(is.length:Int):=by omega
    have hbel:=(HA.o.below _ _ hI3.o).1;obtain⟨b,f,ho,i0,i1,i2,i3⟩:=(HOK.o.grow hbel).at_ j h;have HC:=hq (HIH.o is[j] (List.getElem_mem h) q wr (HOK.o.item j h) hI3.o (by
     have h1:=goV_yes ok _ _ (show(goV ok (pre++[(X,d)]) (Vl.visitsL (d+1) ((is.take j).map Vt.m))).1=true by rw[hp.o]);rw[hp.o]at h1;have h2:=congrArg List.length h1;have h3:=Vl.visitsL_length (l:=(is.take j).map Vt.m) (d:=d+1) (fun x _=>x.visits_length _);have h4:=sizes_take h;have h5:=sizes_part is (j+1);have h6:=HZ.o;rw[List.length_append,h3,List.length_append]at h2;simp only[List.length_singleton]at h2;omega))
    have HT:Hq (Vl.visitsL (d+1) ((is.take (j+1)).map Vt.m)=Vl.visitsL (d+1) ((is.take j).map Vt.m)++is[j].m.visits (d+1)):=hq (by
     rw[List.take_succ_eq_append_getElem h,List.map_append,zv6];simp[Vl.visitsL])
    have HR:Hq (Vl.visitsL (d+1) (is.map Vt.m)=Vl.visitsL (d+1) ((is.take (j+1)).map Vt.m)++Vl.visitsL (d+1) ((is.drop (j+1)).map Vt.m)):=hq (by
     rw[←zv6,←List.map_append,List.take_append_drop])
    have HN:Hq (goV ok (pre++[(X,d)]) (Vl.visitsL (d+1) ((is.take (j+1)).map Vt.m))=goV ok q (is[j].m.visits (d+1))):=hq (by
     rw[HT.o,zB0,hp.o];rfl)
    have HF:Hq ((goV ok q (is[j].m.visits (d+1))).1=false->GV=goV ok q (is[j].m.visits (d+1))):=hq (fun h1=>by
     rw[HG1.o,HR.o,zB0,HN.o,if_neg (by rw[h1];simp)])
    clear HIH HT HR hp hI3 hbel;generalize is[j]=x at *;generalize hGJ:goV ok q (x.m.visits (d+1))=GJ at *;obtain⟨gb,gq⟩:=GJ;clear hGJ;simp only at HC HF;have hd1:((d+1:Nat):Int)=(d:Int)+1:=by omega
    rw[hd1]at HC;clear hd1;subst ho;go_wp2_with fail
    refine HC.o.mono ?_;rintro e w3 ⟨rfl,hI4,hk4⟩;have HK4:=hq (hk3.o.trans hk4);have HI4:=hq hI4;clear hI4 hk4 hk3 HC c0 c1 c2 c3 i0 i1 i2 i3;cases gb with
    |true=>
     clear HF;go_wp2_with fail
     go_roundw
     case rel=>exact⟨j+1,gq,h,zb5 (by omega),HN,HI4,HK4⟩
     case measure=>simp[intOf];omega
    |false=>
     have HV:=hq (HP.o false gq w3 (HF.o rfl) HI4.o (HB0.o.trans HK4.o));clear HF HP HN HI4;go_wp2_with fail
     exact HV.o
   ·have hz: ¬(j:Int)<(is.length:Int):=by omega
    have HV:=hq (HP.o true q wr (by
     have h1:=hp.o;rw[List.take_of_length_le (by omega)]at h1;rw[HG1.o,h1]) hI3.o (HB0.o.trans hk3.o))
    clear HP HIH hp hI3;go_wp2_with fail
    exact HV.o)
theorem zD5 {w:World} {g:Nat} {t:TypeId} {a:Value} (h:Whole w g t #[a]):w.cell? ⟨g,0,none⟩=some a:=h.at_ 0
def CntI(w0:World)(g:Nat)(pre:List (Vl×Nat))(W:World):Prop:=Below w0.heap.size w0 W/\Whole W g 3 #[.int .i64 (pre.length:Int)]
theorem CntI.step {w0 W V0:World} {g:Nat} {pre:List (Vl×Nat)} (h:CntI w0 g pre W)(hg0:w0.heap.size<=g)(hb:Below W.heap.size W V0)(y:Vl×Nat) {m:Int} (hm:m=(pre.length:Int)+1):CntI w0 g (pre++[y]) (V0.setCell ⟨g,0,none⟩ (.int .i64 m))/\Kp (fun k=>k=g) W (V0.setCell ⟨g,0,none⟩ (.int .i64 m)):=by
 have hk:Kp (fun k=>k=g) W (V0.setCell ⟨g,0,none⟩ (.int .i64 m)):=(Kp.of hb).trans (Kp.set V0 _ _ rfl);refine⟨⟨hk.below (fun k hk=>by subst hk;exact hg0) h.1 h.1.size,?_⟩,hk⟩;have h1:=(h.2.grow hb).put 0 (.int .i64 m);have e:(#[Value.int .i64 (pre.length:Int)]).setIfInBounds 0 (.int .i64 m)= #[.int .i64 ((pre++[y]).length:Int)]:=by
  rw[List.length_append,List.length_singleton,hm];rfl
 rw[e]at h1;exact h1
structure DepI(w0:World)(g h:Nat)(pre:List (Vl×Nat))(W:World):Prop where
 bl:Below w0.heap.size w0 W
 cn:Whole W g 3 #[.int .i64 (pre.length:Int)]
 dp:Whole W h 3 #[.int .i64 (zf7 pre:Int)]
theorem DepI.step {w0 W V0:World} {g h:Nat} {pre:List (Vl×Nat)} (hI:DepI w0 g h pre W)(hg0:w0.heap.size<=g)(hgh:g<h)(hb:Below W.heap.size W V0)(y:Vl×Nat) {m q:Int} (hm:m=(pre.length:Int)+1)(hq:q=max (zf7 pre:Int) (y.2:Int)):
 DepI w0 g h (pre++[y]) ((V0.setCell ⟨g,0,none⟩ (.int .i64 m)).setCell ⟨h,0,none⟩ (.int .i64 q))/\Kp (fun k=>k=g\/k=h) W ((V0.setCell ⟨g,0,none⟩ (.int .i64 m)).setCell ⟨h,0,none⟩ (.int .i64 q)):=by
 have hk:Kp (fun k=>k=g\/k=h) W ((V0.setCell ⟨g,0,none⟩ (.int .i64 m)).setCell ⟨h,0,none⟩ (.int .i64 q)):=((Kp.of hb).trans (Kp.set V0 _ _ (.inl rfl))).trans (Kp.set _ _ _ (.inr rfl));refine⟨⟨hk.below (fun k hk=>by rcases hk with rfl|rfl<;>omega) hI.bl hI.bl.size,?_,?_⟩,hk⟩
 ·have h1:=((hI.cn.grow hb).put 0 (.int .i64 m)).far (p:=⟨h,0,none⟩) (show g≠h by omega) (.int .i64 q);have e:(#[Value.int .i64 (pre.length:Int)]).setIfInBounds 0 (.int .i64 m)= #[.int .i64 ((pre++[y]).length:Int)]:=by
   rw[List.length_append,List.length_singleton,hm];rfl
  rw[e]at h1;exact h1
 ·have h1:=((hI.dp.grow hb).far (p:=⟨g,0,none⟩) (show h≠g by omega) (.int .i64 m)).put 0 (.int .i64 q);have e:(#[Value.int .i64 (zf7 pre:Int)]).setIfInBounds 0 (.int .i64 q)= #[.int .i64 (zf7 (pre++[y]):Int)]:=by
   have h2:zf7 (pre++[y])=max (zf7 pre) y.2:=by rw[zJ5,deepest_cons];simp[zf7]
   rw[h2,hq];have h3:((max (zf7 pre) y.2:Nat):Int)=max (zf7 pre:Int) (y.2:Int):=by omega
   rw[h3];rfl
  rw[e]at h1;exact h1
theorem zo6 {t:TypeId} {z:Value} {s b:Nat} (h:(Tryz.prog.info? t).map (fun i=>(i.zero,i.size,i.bytes))=some (some z,s,b)): ∃i,Tryz.prog.info? t=some i/\i.zero=some z/\i.size=s/\i.bytes=b:=by
 cases hi:Tryz.prog.info? t with
 |none=>rw[hi]at h;cases h
 |some i=>
  rw[hi]at h;simp only[Option.map_some,Option.some.injEq,Prod.mk.injEq]at h;exact⟨i,rfl,h.1,h.2.1,h.2.2⟩
theorem infoVv:(Tryz.prog.info? 26).map (fun i=>(i.zero,i.size,i.bytes))=some (some (.agg #[.int .i64 0,.string ⟨#[]⟩,.slice none 0 0,.slice none 0 0]),4,72):=by kernel_rfl
def natC(l:List Nat):List Value:=l.map fun (i:Nat)=>Value.int .i64 (i:Int)
def NatsPost(B:Nat)(l:List Nat)(w:World)(e:Ending)(w':World):Prop:= ∃v,e= .returned v/\w'.ownsRow B 3 1 v l.length (natC l)/\Below w.heap.size w w'
def rowN(n j:Nat):Array Value:=((List.range n).map fun a=>if a<j then Value.int .i64 (a:Int) else .int .i64 0).toArray
theorem zd9 {B:Nat} {a w:World} (h:Below B a w) {g:Nat} (hg:B<=g)(i:Nat)(u:Value):Below B a (w.setCell ⟨g,i,none⟩ u):=h.setCell (by simp only;exact hg) u
structure RemI(B:Nat)(W:World)(gv gr gw:Nat)(cv:Array Value)(ov:Value)(od:List Nat)(k:Int)(t:Bs)(kr:SRow)(o:Option Addr)(c:Nat)(ys:List Vt)(w:World):Prop where
 bl:Below W.heap.size W w
 sz:B<=w.heap.size
 hv:Whole w gv 26 cv
 hr:Whole w gr 26 #[.int .i64 0,.string ⟨#[]⟩,.slice none 0 0,.slice none 0 0]
 hw:Whole w gw 26 #[.int .i64 k,.string (st t),kr.v,.slice o ys.length c]
 od:w.ownsRow B 3 1 ov od.length (natC od)
 ks:w.ownsRow B 9 1 kr.v kr.l.length (strC kr.l)
 it:w.ownsRow B 26 4 (.slice o ys.length c) ys.length (vtC ys)
 ch: ∀y∈ys,y.Own 26 9 B (fun g=>kr.v.ownBlock≠some g/\(Value.slice o ys.length c).ownBlock≠some g) w
 l0:W.heap.size<=gv/\gv<B
 l1:W.heap.size<=gw/\gw<B
 l2:W.heap.size<=gr/\gr<B
 ne:gv≠gw
 nr:gr≠gw
 nd:(ys.flatMap Vt.rows).Nodup
theorem Vt.Own.lt {tV tS:TypeId} {B:Nat} {S:Nat->Prop} {w:World} {x:Vt} (h:Vt.Own tV tS B S w x):Vt.Own tV tS B (fun g=>S g/\B<=g/\g<w.heap.size) w x:=by
 induction h with
 |mk k t ks o c is hks hkb hrow hrb _ ih=>exact .mk k t ks o c is hks (fun g hg=>⟨hkb g hg,hks.lt g hg⟩) hrow (fun g hg=>⟨hrb g hg,hrow.lt g hg⟩) ih
theorem zr4 {w:World} {B B' e size n:Nat} {v:Value} {xs:List Value} (h:w.ownsRow B e size v n xs)(hb:B'<=B):w.ownsRow B' e size v n xs:=by
 refine⟨h.1,?_⟩;rcases h.2 with h2|⟨g,cap,cur,h1,h2,h3⟩
 ·exact .inl h2
 ·exact .inr ⟨g,cap,cur,h1,Nat.le_trans hb h2,h3⟩
theorem Vt.Own.base {tV tS:TypeId} {B B':Nat} {S:Nat->Prop} {w:World} {x:Vt} (h:Vt.Own tV tS B S w x)(hb:B'<=B):Vt.Own tV tS B' S w x:=by
 induction h with
 |mk k t ks o c is hks hkb hrow hrb _ ih=>exact .mk k t ks o c is (zr4 hks hb) hkb (zr4 hrow hb) hrb ih
theorem zc8 {w:World} {B e size n:Nat} {v:Value} {xs:List Value} (h:w.ownsRow B e size v n xs) {g i:Nat} (hg:g<B)(u:Value):(w.setCell ⟨g,i,none⟩ u).ownsRow B e size v n xs:=
 h.kept (row:=some g) ⟨rfl,rfl,rfl,by simp[World.setCell],fun k _ hne=>Below.heap_setCell w ⟨g,i,none⟩ u k (fun e=>hne (by rw[e]))⟩ (by
  cases hv:v.ownBlock with
  |none=>exact .inl rfl
  |some b=>exact .inr (fun e=>by have h1:=(h.lt b hv).1;have h2:=Option.some.inj e;omega))
theorem Vt.Own.set {tV tS:TypeId} {B:Nat} {S:Nat->Prop} {w:World} {x:Vt} (h:Vt.Own tV tS B S w x) {g i:Nat} (hg:g<B)(u:Value):Vt.Own tV tS B S (w.setCell ⟨g,i,none⟩ u) x:=by
 induction h with
 |mk k t ks o c is hks hkb hrow hrb _ ih=>exact .mk k t ks o c is (zc8 hks hg u) hkb (zc8 hrow hg u) hrb ih
theorem ownT' {w:World} {B e n size:Nat} {v:Value} {xs:List Value} (h:w.ownsRow B e size v n xs): ∀g,v.ownBlock=some g-> ∃cur,w.heap[g]?=some (.cells cur e (0,0)):=fun g hg=>by
 rcases h.2 with ⟨rfl,_⟩|⟨g',cap',cur,rfl,hb,hg',_⟩
 ·cases hg
 ·have:g'=g:=by simpa [Value.ownBlock] using hg
  subst this;exact⟨cur,hg'⟩
theorem zj1 {w:World} {B e n size B' e' n' size':Nat} {v v':Value} {xs xs':List Value} (h:w.ownsRow B e size v n xs)(h':w.ownsRow B' e' size' v' n' xs')(hne:e≠e'):v.ownBlock=none\/v.ownBlock≠v'.ownBlock:=by
 cases hv:v.ownBlock with
 |none=>exact .inl rfl
 |some g=>
  refine .inr fun e2=> ?_
  obtain⟨c,hc⟩:=ownT' h g hv;obtain⟨c',hc'⟩:=ownT' h' g e2.symm;rw[hc]at hc';cases hc';exact hne rfl
theorem za6 {w w':World} {g:Nat} {t:TypeId} {cs:Array Value} {row:Option Nat} (h:Whole w g t cs)(hg:w.grownBy w' row)(hne:some g≠row):Whole w' g t cs:=(hg.block g h.lt hne).trans h
section
variable {B:Nat} {W w w':World} {gv gr gw:Nat} {cv:Array Value} {ov:Value} {od:List Nat} {k:Int} {t:Bs} {kr:SRow} {o:Option Addr} {c:Nat} {ys:List Vt}
theorem RemI.grow(h:RemI B W gv gr gw cv ov od k t kr o c ys w)(hb:Below w.heap.size w w'):RemI B W gv gr gw cv ov od k t kr o c ys w':=
 ⟨za h.bl hb,Nat.le_trans h.sz hb.size,h.hv.grow hb,h.hr.grow hb,h.hw.grow hb,h.od.kept (zb9 hb none) (by cases ov.ownBlock<;>simp),h.ks.kept (zb9 hb none) (by cases kr.v.ownBlock<;>simp),
  h.it.kept (zb9 hb none) (by cases (Value.slice o ys.length c).ownBlock<;>simp),fun y hy=>(h.ch y hy).grow hb,h.l0,h.l1,h.l2,h.ne,h.nr,h.nd⟩
theorem RemI.out(h:RemI B W gv gr gw cv ov od k t kr o c ys w):(Vt.mk k t kr o c ys).Own 26 9 B (fun _=>True) w:=
 .mk k t kr o c ys h.ks (fun _ _=>trivial) h.it (fun _ _=>trivial) (fun _i hi=>(h.ch _ (List.getElem_mem hi)).kind (fun _ _=>trivial))
theorem RemI.outN(h:RemI B W gv gr gw cv ov od k t kr o c ys w):(Vt.mk k t kr o c ys).rows.Nodup:=by
 rw[Vt.rows_mk];refine List.nodup_append.2 ⟨?_,h.nd,fun a ha b hb e=> ?_⟩
 ·cases (Value.slice o ys.length c).ownBlock<;>simp
 ·subst e;obtain⟨y,hy,hb⟩:=List.mem_flatMap.1 hb;exact((h.ch y hy).rowsS a hb).2 (by simpa using ha)
theorem RemI.key(h:RemI B W gv gr gw cv ov od k t kr o c ys w) {x:Bs} {o':Option Addr} {c':Nat} (hown:w'.ownsRow B 9 1 (.slice o' (kr.l.length+1) c') (kr.l.length+1) (strC kr.l++[.string (st x)]))(hg:w.grownBy w' kr.v.ownBlock)
 (hat:(Value.slice o' (kr.l.length+1) c').ownBlock=kr.v.ownBlock\/(Value.slice o' (kr.l.length+1) c').ownBlock=some w.heap.size):
 RemI B W gv gr gw cv ov od k t ⟨o',c',kr.l++[x]⟩ o c ys (w'.setCell ⟨gw,2,none⟩ (.slice o' (kr.l.length+1) c')):=by
 have hne: ∀g,g<B->some g≠kr.v.ownBlock:=fun g hgB e=>by have:=(h.ks.lt g e.symm).1;omega
 have hl:(kr.l++[x]).length=kr.l.length+1:=by rw[List.length_append,List.length_singleton]
 have hkv:(SRow.mk o' c' (kr.l++[x])).v= .slice o' (kr.l.length+1) c':=by unfold SRow.v;simp only;rw[hl]
 refine⟨?_,?_,(za6 h.hv hg (hne gv h.l0.2)).far h.ne _,(za6 h.hr hg (hne gr h.l2.2)).far h.nr _,?_,zc8 (h.od.kept hg ?_) h.l1.2 _,?_,zc8 (h.it.kept hg ?_) h.l1.2 _,fun y hy=> ?_,h.l0,h.l1,h.l2,h.ne,h.nr,h.nd⟩
 ·exact zd9 (h.bl.grown hg h.bl.size (fun j ej=>by have:=(h.ks.lt j ej).1;have:=h.l0;omega)) h.l1.1 _ _
 ·rw[show (w'.setCell ⟨gw,2,none⟩ (.slice o' (kr.l.length+1) c')).heap.size=w'.heap.size by simp[World.setCell]];exact Nat.le_trans h.sz hg.size
 ·have h1:=(za6 h.hw hg (hne gw h.l1.2)).put 2 (.slice o' (kr.l.length+1) c');rw[hkv];exact h1
 ·exact zj1 h.od h.ks (by decide)
 ·rw[hkv,hl];have h1:=zc8 hown h.l1.2 (i:=2) (.slice o' (kr.l.length+1) c');have e:strC (kr.l++[x])=strC kr.l++[.string (st x)]:=by unfold strC;rw[List.map_append];rfl
  rw[e];exact h1
 ·exact zj1 h.it h.ks (by decide)
 ·refine Vt.Own.set (((h.ch y hy).lt.kept hg (fun g e hs=>hs.1.1 e)).kind (fun g hs=> ?_)) h.l1.2 _;refine⟨fun e=> ?_,hs.1.2⟩;rw[hkv]at e;rcases hat with hat|hat
  ·rw[hat]at e;exact hs.1.1 e
  ·rw[hat]at e;have:=Option.some.inj e;omega
theorem RemI.item(h:RemI B W gv gr gw cv ov od k t kr o c ys w) {x:Vt} {o':Option Addr} {c':Nat} (hx:x.Own 26 9 B (fun g=>kr.v.ownBlock≠some g/\(Value.slice o ys.length c).ownBlock≠some g) w)(hxn:x.rows.Nodup/\ ∀g∈ys.flatMap Vt.rows,g∉x.rows)
 (hown:w'.ownsRow B 26 4 (.slice o' (ys.length+1) c') (ys.length+1) (vtC ys++[.int .i64 x.k,.string (st x.t),x.ks.v,x.row])) (hg:w.grownBy w' (Value.slice o ys.length c).ownBlock)
 (hat:(Value.slice o' (ys.length+1) c').ownBlock=(Value.slice o ys.length c).ownBlock\/(Value.slice o' (ys.length+1) c').ownBlock=some w.heap.size):
 RemI B W gv gr gw cv ov od k t kr o' c' (ys++[x]) (w'.setCell ⟨gw,3,none⟩ (.slice o' (ys.length+1) c')):=by
 have hne: ∀g,g<B->some g≠(Value.slice o ys.length c).ownBlock:=fun g hgB e=>by have:=(h.it.lt g e.symm).1;omega
 have hl:(ys++[x]).length=ys.length+1:=by rw[List.length_append,List.length_singleton]
 refine⟨?_,?_,(za6 h.hv hg (hne gv h.l0.2)).far h.ne _,(za6 h.hr hg (hne gr h.l2.2)).far h.nr _,?_,zc8 (h.od.kept hg ?_) h.l1.2 _,zc8 (h.ks.kept hg ?_) h.l1.2 _,?_,fun y hy=> ?_,h.l0,h.l1,h.l2,h.ne,h.nr,by rw[List.flatMap_append,List.flatMap_cons,List.flatMap_nil,List.append_nil];exact List.nodup_append.2 ⟨h.nd,hxn.1,fun a ha b hb e=>hxn.2 a ha (e▸hb)⟩⟩
 ·exact zd9 (h.bl.grown hg h.bl.size (fun j ej=>by have:=(h.it.lt j ej).1;have:=h.l0;omega)) h.l1.1 _ _
 ·rw[show (w'.setCell ⟨gw,3,none⟩ (.slice o' (ys.length+1) c')).heap.size=w'.heap.size by simp[World.setCell]];exact Nat.le_trans h.sz hg.size
 ·have h1:=(za6 h.hw hg (hne gw h.l1.2)).put 3 (.slice o' (ys.length+1) c');rw[hl];exact h1
 ·exact zj1 h.od h.it (by decide)
 ·exact zj1 h.ks h.it (by decide)
 ·rw[hl,zC9];exact zc8 hown h.l1.2 _
 ·have key: ∀y:Vt,y.Own 26 9 B (fun g=>kr.v.ownBlock≠some g/\(Value.slice o ys.length c).ownBlock≠some g) w->y.Own 26 9 B (fun g=>kr.v.ownBlock≠some g/\(Value.slice o' (ys++[x]).length c').ownBlock≠some g) (w'.setCell ⟨gw,3,none⟩ (.slice o' (ys.length+1) c')):=fun y hy=>by
   refine Vt.Own.set ((hy.lt.kept hg (fun g e hs=>hs.1.2 e)).kind (fun g hs=>⟨hs.1.1,fun e=> ?_⟩)) h.l1.2 _;rw[hl]at e;rcases hat with hat|hat
   ·rw[hat]at e;exact hs.1.2 e
   ·rw[hat]at e;have:=Option.some.inj e;omega
  rcases List.mem_append.1 hy with hy|hy
  ·exact key y (h.ch y hy)
  ·rw[List.mem_singleton.1 hy];exact key x hx
end
theorem step_atV {ops:Array Oper} {o:Oper} {a:Act} {w:World} {K:Act->World->Prop} {Q:Exit->Act->World->Prop} {E:Prop} (hg:o.guard=none)(s x:Operand)(t:TypeId)
 (ho:o.op= .call {callee:= .builtin .append,args:= #[s,x],argTypes:= #[t,t]})
 (base:Nat) (e:TypeId) (i:TypeInfo) (z:Value) (size bytes:Nat) (ht:Tryz.prog.underlying t=some (.slice e)) (hi:Tryz.prog.info? e=some i) (hz:i.zero=some z)
 (hsize:i.size=size) (hby:i.bytes=bytes) (hzs:z.cells.size=size) (hsz:0<size)
 (v:Value) (n:Nat) (xs:List Value) (hs:a.eval s=v) (hown:w.ownsRow base e size v n xs)
 (ad:Addr) (m c:Nat) (news:List Value) (hx:a.eval x= .slice (some ad) m c) (hl:news.length=m*size) (hnews: ∀j u,news[j]?=some u->w.cell? (ad.add j)=some u) (h1: ∀u∈news,u.oneCell'=true)
 (h63:n+m<=maxLen) (hbytes:(n+m)*bytes<=140737488355328) (hbase:base<=w.heap.size)
 (h: ∀v' w',w'.ownsRow base e size v' (n+m) (xs++news)->w.grownBy w' v.ownBlock->(v'.ownBlock=v.ownBlock\/v'.ownBlock=some w.heap.size)->K (a.put o.dst v') w'):
 if Region.wanted o (yielded ops a.tmps)=true then Oper.wp Tryz.prog o a w K Q else E:=by
 rw[if_pos (by simp[Region.wanted,hg])];obtain⟨v',w',hr,h2,h3,h4,h5⟩:=run_append_own_at (P:=Tryz.prog) w base t o.type e i z size bytes ht hi hz hsize hby hzs hsz v n xs hown ad m c news hl hnews h1 h63 hbytes hbase;unfold Oper.wp execOp;simp only[ho,resolve,invoke,builtin,Sem.run_bind,Sem.run_pure,Result.andThen_ok,List.map_toArray,List.map_cons,List.map_nil,hs,hx,hr];exact h v' w' h2 h3 h5
theorem zo1 {w:World} {B e n size:Nat} {v:Value} {xs:List Value} (h:w.ownsRow B e size v (n+1) xs): ∃g c,v= .slice (some ⟨g,0,none⟩) (n+1) c:=by
 rcases h.2 with ⟨_,h0⟩|⟨g',cap',cur,rfl,_⟩
 ·omega
 ·exact ⟨_,_,rfl⟩
def RemPost(r:Vl)(W:World)(e:Ending)(W':World):Prop:= ∃y:Vt,e= .returned y.v/\y.Own 26 9 W.heap.size (fun _=>True) W'/\y.m=r/\Below W.heap.size W W'
def RemPostN(r:Vl)(W:World)(e:Ending)(W':World):Prop:= ∃y:Vt,e= .returned y.v/\(y.Own 26 9 W.heap.size (fun _=>True) W'/\y.rows.Nodup)/\y.m=r/\Below W.heap.size W W'
theorem RemPostN.post {r:Vl} {W W':World} {e:Ending} (h:RemPostN r W e W'):RemPost r W e W':=by
 obtain⟨y,h1,h2,h3,h4⟩:=h;exact⟨y,h1,h2.1,h3,h4⟩
structure OrdOk(ord:Vl->List Nat)(G:Vl->Prop):Prop where
 lt: ∀k t ks is,G (.mk k t ks is)-> ∀i∈ord (.mk k t ks is),i<is.length
 keys: ∀k t ks is,G (.mk k t ks is)->k=6->ks.length=is.length
 len: ∀v,G v->(ord v).length<=1000000
 items: ∀k t ks is,G (.mk k t ks is)-> ∀x∈is,G x
end Go.Proofs.YtkafjblfjdpdaaaGreatDoor
