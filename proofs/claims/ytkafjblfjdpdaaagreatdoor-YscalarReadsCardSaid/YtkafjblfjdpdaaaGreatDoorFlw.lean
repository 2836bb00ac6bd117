/-
  A REGION THAT DRAWS ITS ORDER, as a flow: each operation but the last ones makes a value of which R tells, out of others' values; one walk an operation, whatever the order.
-/
import Derived.RegionTactic
import Derived.Below
namespace Go.Proofs.YtkafjblfjdpdaaaGreatDoor
open Go.RowKit
def dOf(ops:Array Oper)(i:Nat):Option Tmp:=(ops[i]?).bind (·.dst)
def putA(ops:Array Oper):List Nat->(Nat->Value)->Act->Act
 | [],_,a=>a
 |i::l,f,a=>putA ops l f (a.put (dOf ops i) (f i))
def upd(f:Nat->Value)(i:Nat)(v:Value):Nat->Value:=fun j=>if j=i then v else f j
def updN(f:Nat->Nat)(i:Nat)(v:Nat):Nat->Nat:=fun j=>if j=i then v else f j
theorem put_put(a:Act)(d:Option Tmp)(u v:Value):(a.put d u).put d v=a.put d v:=by
 cases d with
 |none=>rfl
 |some d=>simp[Act.put,Array.setIfInBounds_setIfInBounds]
theorem put_same(a:Act)(d:Tmp):a.put (some d) (a.tmps.getD d undef)=a:=by
 obtain⟨t,e⟩:=a;simp only[Act.put,Act.mk.injEq,and_true];apply Array.ext_getElem?;intro i;by_cases h:d=i
 ·subst h;by_cases hd:d<t.size
  ·simp[hd]
  ·simp[hd]
 ·rw[Array.getElem?_setIfInBounds_ne h]
def zs6(ops:Array Oper):List Nat->Bool
 | []=>true
 |i::l=>(dOf ops i).isSome&&l.all (fun j=>j !=i&&dOf ops j !=dOf ops i)&&zs6 ops l
theorem putA_comm {ops:Array Oper} {d:Option Tmp} (v:Value): ∀(l:List Nat) (f:Nat->Value) (a:Act),(∀j∈l,∀x,dOf ops j=some x->d≠some x)->(putA ops l f a).put d v=putA ops l f (a.put d v)
 | [],f,a,_=>rfl
 |i::l,f,a,h=>by
  unfold putA;rw[putA_comm v l f _ (fun j hj=>h j (List.mem_cons_of_mem _ hj))]
  congr 1
  exact Act.put_comm a _ _ (h i (List.mem_cons_self ..))
theorem zL3 {ops:Array Oper}: ∀(l:List Nat) {f g:Nat->Value} (a:Act),(∀j∈l,f j=g j)->putA ops l f a=putA ops l g a
 | [],_,_,_,_=>rfl
 |i::l,f,g,a,h=>by
  unfold putA;rw[h i (List.mem_cons_self ..)];exact zL3 l _ (fun j hj=>h j (List.mem_cons_of_mem _ hj))
theorem zN9 {ops:Array Oper} {i:Nat} {l:List Nat} (h:zs6 ops (i::l)=true):(dOf ops i).isSome=true/\(∀j∈l,j≠i/\dOf ops j≠dOf ops i)/\zs6 ops l=true:=by
 simp only[zs6,Bool.and_eq_true,List.all_eq_true,bne_iff_ne]at h;exact⟨h.1.1,h.1.2,h.2⟩
theorem zO7 {ops:Array Oper}: ∀(l:List Nat) (f:Nat->Value) (a:Act) (i:Nat) (v:Value),zs6 ops l=true->i∈l->(putA ops l f a).put (dOf ops i) v=putA ops l (upd f i v) a
 |k::l,f,a,i,v,h,hi=>by
  obtain⟨hs,hne,hl⟩:=zN9 h;by_cases hk:i=k
  ·subst hk;unfold putA;rw[putA_comm v l f _ (fun j hj x hx e=>(hne j hj).2 (by rw[hx,←e])),put_put];have e1:upd f i v i=v:=if_pos rfl;rw[e1];exact zL3 l _ (fun j hj=>(if_neg (hne j hj).1).symm)
  ·have hil:i∈l:=by
    rcases List.mem_cons.1 hi with e|e
    ·exact absurd e hk
    ·exact e
   unfold putA;rw[zO7 l f _ i v hl hil];have e1:upd f i v k=f k:=if_neg (fun e=>hk e.symm);rw[e1]
theorem zG6 {ops:Array Oper}: ∀(l:List Nat) (a:Act),zs6 ops l=true->putA ops l (fun i=>a.tmps.getD ((dOf ops i).getD 0) undef) a=a
 | [],a,_=>rfl
 |i::l,a,h=>by
  obtain⟨hs,hne,hl⟩:=zN9 h;unfold putA;obtain⟨d,hd⟩:=Option.isSome_iff_exists.1 hs;have e1:(fun i=>a.tmps.getD ((dOf ops i).getD 0) undef) i=a.tmps.getD d undef:=by
   show a.tmps.getD ((dOf ops i).getD 0) undef=_;rw[hd,Option.getD_some]
  rw[e1,hd,put_same];exact zG6 l a hl
def clo(ops:Array Oper):Nat->List Nat->List Nat
 |0,l=>l
 |k+1,l=>l++clo ops k (l.flatMap fun i=>((ops[i]?).map (fun o=>(o.after.toList.filter (Region.binds .any)).map (·.on))).getD [])
theorem clo_done {ops:Array Oper} {L:Nat->Bool} (hL: ∀i o,ops[i]?=some o->L i=true-> ∀e∈o.after,Region.binds .any e=true->L e.on=true): ∀(k:Nat) (l:List Nat),(∀i∈l,L i=true)-> ∀i∈clo ops k l,L i=true
 |0,l,h,i,hi=>h i hi
 |k+1,l,h,i,hi=>by
  unfold clo at hi;rcases List.mem_append.1 hi with hi|hi
  ·exact h i hi
  ·refine clo_done hL k _ (fun j hj=> ?_) i hi;obtain⟨m,hm,hj⟩:=List.mem_flatMap.1 hj;cases ho:ops[m]? with
   |none=>rw[ho]at hj;cases hj
   |some o=>
    rw[ho,Option.map_some,Option.getD_some]at hj;obtain⟨e,he,rfl⟩:=List.mem_map.1 hj;obtain⟨he,hb⟩:=List.mem_filter.1 he;exact hL m o ho (h m hm) e (by simpa using he) hb
def flowB(ops:Array Oper)(ns:List Nat)(rs:List (List Nat)):Bool:=
 decide (ns.length<=ops.size)&&zs6 ops ns&&ns.all (fun i=>decide (i<ops.size)&&(ops[i]?.map (fun o=>o.after.all (fun e=> !Region.binds .any e||(ns.contains e.on&&decide (e.on<i))))).getD false)&&
 ns.all (fun i=>(rs.getD i []).contains i&&(rs.getD i []).all (fun j=>ns.contains j&&(rs.getD j []).all (fun m=>(rs.getD i []).contains m)&&
  (j==i||(ops[i]?.map (fun o=>o.after.any (fun e=>Region.binds .any e&&(rs.getD e.on []).contains j&&ns.contains e.on))).getD false)))&&
 (List.range ops.size).all (fun j=>ns.contains j||ns.all (fun i=>(clo ops ops.size ((ops[j]?).map (fun o=>(o.after.toList.filter (Region.binds .any)).map (·.on))|>.getD [])).contains i))
structure Later(B:Nat)(w0:World)(rs:List (List Nat))(lo hi:Nat->Nat)(i:Nat)(w w':World):Prop where
 bel:Below B w0 w'
 size:w.heap.size<=w'.heap.size
 block: ∀b j,j∈rs.getD i []->lo j<=b->b<hi j->w'.heap[b]?=w.heap[b]?
section
variable {P:Program} {ops:Array Oper} {Q:Exit->Act->World->Prop}
structure Did(B:Nat)(w0:World)(ops:Array Oper)(rs:List (List Nat))(R:Nat->Value->Nat->Nat->World->Prop)(f:Nat->Value)(lo hi:Nat->Nat)(a:Act)(i:Nat)(w:World)(a':Act)(w':World)(v:Value):Prop where
 act:a'=a.put (dOf ops i) v
 bel:Below w.heap.size w w'
 fact: ∀w'',Below B w0 w''->w'.heap.size<=w''.heap.size->(∀b,w.heap.size<=b->b<w'.heap.size->w''.heap[b]?=w'.heap[b]?)->(∀j∈rs.getD i [],j≠i->R j (f j) (lo j) (hi j) w'')->R i v w.heap.size w'.heap.size w''
structure FlowI(B:Nat)(w0:World)(a0:Act)(ops:Array Oper)(ns:List Nat)(rs:List (List Nat))(R:Nat->Value->Nat->Nat->World->Prop)(L:Nat->Bool)(f:Nat->Value)(lo hi:Nat->Nat)(a:Act)(w:World):Prop where
 act:a=putA ops ns f a0
 bel:Below B w0 w
 only: ∀i,L i=true->i∈ns
 deps: ∀i o,ops[i]?=some o->L i=true-> ∀e∈o.after,Region.binds .any e=true->L e.on=true
 reach: ∀i,L i=true-> ∀j∈rs.getD i [],L j=true
 iv: ∀i,L i=true->B<=lo i/\lo i<=hi i/\hi i<=w.heap.size
 ap: ∀i j,L i=true->L j=true->i≠j->hi i<=lo j\/hi j<=lo i
 fact: ∀i,L i=true-> ∀w',Later B w0 rs lo hi i w w'->R i (f i) (lo i) (hi i) w'
theorem zH8 {ns:List Nat} {rs:List (List Nat)} (h:flowB ops ns rs=true):
 ns.length<=ops.size/\zs6 ops ns=true/\(∀i∈ns,i<ops.size/\ ∀o,ops[i]?=some o-> ∀e∈o.after,Region.binds .any e=true->e.on∈ns/\e.on<i)/\(∀i∈ns,i∈rs.getD i []/\ ∀j∈rs.getD i [],j∈ns/\(∀m∈rs.getD j [],m∈rs.getD i [])/\(j=i\/ ∃o,ops[i]?=some o/\ ∃e∈o.after,Region.binds .any e=true/\j∈rs.getD e.on []/\e.on∈ns))/\
 (∀j o,ops[j]?=some o->j∉ns-> ∀i∈ns,i∈clo ops ops.size ((o.after.toList.filter (Region.binds .any)).map (·.on))):=by
 simp only[flowB,Bool.and_eq_true,List.all_eq_true,decide_eq_true_eq,Bool.or_eq_true,beq_iff_eq,List.contains_iff_mem,List.mem_range]at h;obtain⟨⟨⟨⟨h0,h1⟩,h2⟩,h3⟩,h4⟩:=h;refine⟨h0,h1,fun i hi=>⟨(h2 i hi).1,fun o ho e he hb=> ?_⟩,fun i hi=>⟨(h3 i hi).1,fun j hj=> ?_⟩,fun j o ho hj i hi=> ?_⟩
 ·have h5:=(h2 i hi).2;rw[ho,Option.map_some,Option.getD_some]at h5;have h6:=Array.all_eq_true_iff_forall_mem.1 h5 e he;rw[hb]at h6;simpa using h6
 ·obtain ⟨⟨h5,h6⟩,h7⟩:=(h3 i hi).2 j hj;refine⟨h5,h6,h7.imp id fun h7=> ?_⟩;cases ho:ops[i]? with
  |none=>rw[ho]at h7;cases h7
  |some o=>
   rw[ho,Option.map_some,Option.getD_some]at h7;obtain⟨k,hk,h8⟩:=Array.any_eq_true.1 h7;simp only[Bool.and_eq_true,List.contains_iff_mem]at h8;exact⟨o,rfl,_,Array.getElem_mem hk,h8.1.1,h8.1.2,h8.2⟩
 ·have hlt:j<ops.size:=(Array.getElem?_eq_some_iff.1 ho).1;have:=(h4 j hlt).resolve_left hj i hi;rw[ho,Option.map_some,Option.getD_some]at this;exact this
theorem getD_all {L:Array Bool} {i:Nat} (h:L.getD i true=false):i<L.size/\L.getD i false=false:=by
 by_cases hi:i<L.size
 ·simp[hi]at h ⊢;exact h
 ·simp[hi]at h
theorem flow_any {w0:World} {a0:Act} {ns:List Nat} {rs:List (List Nat)} (R:Nat->Value->Nat->Nat->World->Prop)(boxes:List Nat)(hc:flowB ops ns rs=true)
 (hs: ∀i∈ns,∀o,ops[i]?=some o-> ∀(f:Nat->Value) (lo hi:Nat->Nat) (w:World),Below w0.heap.size w0 w->(∀j∈rs.getD i [],j≠i->R j (f j) (lo j) (hi j) w)->wpOp P ops Q i (fun a' w'=> ∃v,Did w0.heap.size w0 ops rs R f lo hi (putA ops ns f a0) i w a' w' v) (putA ops ns f a0) w)
 (he: ∀(fuel:Nat) (L:Array Bool) (f:Nat->Value) (lo hi:Nat->Nat) (w:World),fuel+ns.length=ops.size->L=(Array.range ops.size).map (fun i=>ns.contains i)->Below w0.heap.size w0 w->(∀i∈ns,R i (f i) (lo i) (hi i) w)->(∀k∈boxes,k∈ns->w0.heap.size<=lo k/\hi k<=w.heap.size)->
  (∀w',Below w0.heap.size w0 w'->w.heap.size<=w'.heap.size->(∀b,b<w.heap.size->(∀k∈boxes,¬(lo k<=b/\b<hi k))->w'.heap[b]?=w.heap[b]?)-> ∀i∈ns,(∀k∈boxes,k∈ns/\k∉rs.getD i [])->R i (f i) (lo i) (hi i) w')->
  wpAny P .any ops Q fuel L (putA ops ns f a0) w):
 ∀(fuel:Nat) (L:Array Bool) (f:Nat->Value) (lo hi:Nat->Nat) (a:Act) (w:World),L.size=ops.size->fuel+(ns.filter (fun i=>L.getD i false)).length=ops.size->FlowI w0.heap.size w0 a0 ops ns rs R (fun i=>L.getD i false) f lo hi a w->wpAny P .any ops Q fuel L a w:=by
 obtain⟨hlen,hslots,hlt,hreach,hrest⟩:=zH8 hc;intro fuel;have fin: ∀(fuel:Nat) (L:Array Bool) (f:Nat->Value) (lo hi:Nat->Nat) (a:Act) (w:World),L.size=ops.size->fuel+(ns.filter (fun i=>L.getD i false)).length=ops.size->FlowI w0.heap.size w0 a0 ops ns rs R (fun i=>L.getD i false) f lo hi a w->(∀i∈ns,L.getD i false=true)->wpAny P .any ops Q fuel L a w:=by
  intro fuel L f lo hi a w hz hfu hI hall;rw[hI.act];have e1:(ns.filter (fun i=>L.getD i false))=ns:=List.filter_eq_self.2 hall;rw[e1]at hfu;refine he fuel L f lo hi w hfu ?_ hI.bel (fun i hi'=>hI.fact i (hall i hi') w ⟨hI.bel,Nat.le_refl _,fun _ _ _ _ _=>rfl⟩) (fun k _ hk=>⟨(hI.iv k (hall k hk)).1,(hI.iv k (hall k hk)).2.2⟩) ?_
  ·apply Array.ext
   ·rw[hz];simp
   ·intro i h1 h2;simp only[Array.getElem_map,Array.getElem_range];by_cases hin:i∈ns
    ·have:=hall i hin;rw[List.contains_iff_mem.2 hin];simpa [h1] using this
    ·have h3:L.getD i false≠true:=fun h=>hin (hI.only i h)
     have h4:ns.contains i=false:=by
      cases h:ns.contains i with
      |false=>rfl
      |true=>exact absurd (List.contains_iff_mem.1 h) hin
     rw[h4];simpa [h1] using h3
  ·intro w' hb hsz hbl i hi' hk;refine hI.fact i (hall i hi') w' ⟨hb,hsz,fun b j hj hl hh=>hbl b (Nat.lt_of_lt_of_le hh (hI.iv j (hI.reach i (hall i hi') j hj)).2.2) (fun k hkb ⟨h1,h2⟩=> ?_)⟩;obtain⟨hkn,hkr⟩:=hk k hkb;have hne:j≠k:=fun e=>hkr (e▸hj)
   have hL:=hI.reach i (hall i hi') j hj;rcases hI.ap j k hL (hall k hkn) hne with h|h<;>omega
 induction fuel with
 |zero=>
  intro L f lo hi a w hz hfu hI;by_cases hall: ∀i∈ns,L.getD i false=true
  ·exact fin 0 L f lo hi a w hz hfu hI hall
  ·exfalso;have h1:(ns.filter (fun i=>L.getD i false)).length<ns.length:=by
    rcases Nat.lt_or_ge (ns.filter (fun i=>L.getD i false)).length ns.length with h|h
    ·exact h
    ·exact absurd (fun i hi'=>(List.filter_eq_self.1 ((List.filter_sublist).eq_of_length (Nat.le_antisymm (List.length_filter_le _ _) h))) i hi') hall
   omega
 |succ fuel ih=>
  intro L f lo hi a w hz hfu hI;by_cases hall: ∀i∈ns,L.getD i false=true
  ·exact fin (fuel+1) L f lo hi a w hz hfu hI hall
  ·-- only operations of the flow may come up
   have honly: ∀i∈Region.ready .any ops L,i∈ns:=fun i hi'=>by
    obtain⟨h1,o,ho,hd⟩:=mem_ready.1 hi';by_cases hin:i∈ns
    ·exact hin
    ·refine absurd (fun m hm=> ?_) hall;refine clo_done (L:=fun i=>L.getD i false) hI.deps _ _ (fun e he=> ?_) m (hrest i o ho hin m hm);obtain⟨x,hx,rfl⟩:=List.mem_map.1 he;obtain⟨hx,hb⟩:=List.mem_filter.1 hx;exact hd x (by simpa using hx) hb
   refine⟨fun hr=> ?_,fun i hi'=> ?_⟩
   ·-- something is ready:the first open one
    exfalso;have key: ∀m i,i<m->i∈ns->L.getD i false=true:=by
     intro m;induction m with
     |zero=>intro i hi';omega
     |succ m ihm=>
      intro i him hin;by_cases hLi:L.getD i false=true
      ·exact hLi
      exfalso;obtain⟨h5,h6⟩:=hlt i hin;obtain⟨o,ho⟩: ∃o,ops[i]?=some o:=⟨ops[i],Array.getElem?_eq_getElem h5⟩;have h7:i∈Region.ready .any ops L:=mem_ready.2 ⟨by
       have:i<L.size:=by rw[hz];exact h5
       simp[this]at hLi ⊢;exact hLi,o,ho,fun e he' hb=>by
       obtain⟨h8,h9⟩:=h6 o ho e he' hb;exact ihm e.on (by omega) h8⟩
      rw[hr]at h7;cases h7
    exact hall (fun i hi'=>key (i+1) i (Nat.lt_succ_self i) hi')
   ·have hin:=honly i hi';obtain⟨h1,o,ho,hd⟩:=mem_ready.1 hi';obtain⟨hiz,hopen⟩:=getD_all h1;have hdep: ∀j∈rs.getD i [],j≠i->L.getD j false=true:=fun j hj hne=>by
     obtain⟨_,_,h5⟩:=(hreach i hin).2 j hj;rcases h5 with h5|⟨o',ho',e,he',hb,h6,h7⟩
     ·exact absurd h5 hne
     ·rw[ho]at ho';obtain rfl:=Option.some.inj ho';exact hI.reach e.on (hd e he' hb) j h6
    have hw:=hs i hin o ho f lo hi w hI.bel (fun j hj hne=>hI.fact j (hdep j hj hne) w ⟨hI.bel,Nat.le_refl _,fun _ _ _ _ _=>rfl⟩);rw[←hI.act]at hw;refine wpOp_mono (fun a' w' h=> ?_) hw;obtain⟨v,hD⟩:=h;have hBw:w0.heap.size<=w.heap.size:=hI.bel.size;have hne: ∀j,L.getD j false=true->j≠i:=fun j hj e=>by rw[e,hopen]at hj;cases hj
    have hset: ∀j,(L.setIfInBounds i true).getD j false=(if j=i then true else L.getD j false):=fun j=>by
     by_cases hj:j=i
     ·subst hj;simp[hiz]
     ·rw[if_neg hj,getD_set_ne false (fun e=>hj e.symm)]
    have hsetT: ∀j,(L.setIfInBounds i true).getD j false=true->j=i\/L.getD j false=true:=fun j hj=>by
     rw[hset]at hj;by_cases h:j=i
     ·exact .inl h
     ·rw[if_neg h]at hj;exact .inr hj
    refine ih (L.setIfInBounds i true) (upd f i v) (updN lo i w.heap.size) (updN hi i w'.heap.size) a' w' (by rw[Array.size_setIfInBounds];exact hz) ?_ ?_
    ·have hnd: ∀l:List Nat,zs6 ops l=true->i∈l->(l.filter (fun j=>(L.setIfInBounds i true).getD j false)).length=(l.filter (fun j=>L.getD j false)).length+1:=by
      intro l;induction l with
      |nil=>intro _ h;cases h
      |cons k l ihl=>
       intro h hm;obtain⟨_,hnek,hl⟩:=zN9 h;rw[List.filter_cons,List.filter_cons];by_cases hk:k=i
       ·subst hk;rw[hset k,if_pos rfl,hopen];simp only[if_true,Bool.false_eq_true,if_false,List.length_cons]
        congr 2
        refine List.filter_congr fun j hj=> ?_
        rw[hset j,if_neg (hnek j hj).1]
       ·have hm':i∈l:=(List.mem_cons.1 hm).resolve_left (fun e=>hk e.symm);rw[hset k,if_neg hk];have:=ihl hl hm';split<;>(try simp only[List.length_cons])<;>omega
     have:=hnd ns hslots hin;omega
    ·have eu: ∀j,j≠i->upd f i v j=f j/\updN lo i w.heap.size j=lo j/\updN hi i w'.heap.size j=hi j:=fun j hj=>⟨if_neg hj,if_neg hj,if_neg hj⟩
     have ei:upd f i v i=v/\updN lo i w.heap.size i=w.heap.size/\updN hi i w'.heap.size i=w'.heap.size:=⟨if_pos rfl,if_pos rfl,if_pos rfl⟩;refine⟨?_,hI.bel.trans (hD.bel.mono hBw),?_,?_,?_,?_,?_,?_⟩
     ·rw[hD.act,hI.act];exact zO7 ns f a0 i v hslots hin
     ·intro j hj;rcases hsetT j hj with rfl|hj
      ·exact hin
      ·exact hI.only j hj
     ·intro j o' ho' hj e he' hb;rcases hsetT j hj with rfl|hj
      ·rw[ho]at ho';obtain rfl:=Option.some.inj ho';rw[hset];split
       ·rfl
       ·exact hd e he' hb
      ·rw[hset];split
       ·rfl
       ·exact hI.deps j o' ho' hj e he' hb
     ·intro j hj m hm;rcases hsetT j hj with rfl|hj
      ·rw[hset];split
       ·rfl
       ·rename_i h;exact hdep m hm h
      ·rw[hset];split
       ·rfl
       ·exact hI.reach j hj m hm
     ·intro j hj;rcases hsetT j hj with rfl|hj
      ·rw[ei.2.1,ei.2.2];exact⟨hBw,hD.bel.size,Nat.le_refl _⟩
      ·obtain ⟨e1,e2,e3⟩:=eu j (hne j hj);rw[e2,e3];have:=hI.iv j hj;exact⟨this.1,this.2.1,Nat.le_trans this.2.2 hD.bel.size⟩
     ·intro j m hj hm hjm;rcases hsetT j hj with hj'|hj'
      ·rcases hsetT m hm with hm'|hm'
       ·exact absurd (hj'.trans hm'.symm) hjm
       ·obtain ⟨e1,e2,e3⟩:=eu m (hne m hm');rw[hj',ei.2.1,ei.2.2,e2,e3];exact .inr (hI.iv m hm').2.2
      ·rcases hsetT m hm with hm'|hm'
       ·obtain ⟨e1,e2,e3⟩:=eu j (hne j hj');rw[hm',ei.2.1,ei.2.2,e2,e3];exact .inl (hI.iv j hj').2.2
       ·obtain ⟨e1,e2,e3⟩:=eu j (hne j hj');obtain⟨e4,e5,e6⟩:=eu m (hne m hm');rw[e2,e3,e5,e6];exact hI.ap j m hj' hm' hjm
     ·intro j hj w'' hla;rcases hsetT j hj with rfl|hj
      ·rw[ei.1,ei.2.1,ei.2.2];refine hD.fact w'' hla.bel hla.size (fun b h1 h2=>hla.block b j (hreach j hin).1 (by rw[ei.2.1];exact h1) (by rw[ei.2.2];exact h2)) (fun m hm hmj=> ?_);have hmd:=hdep m hm hmj;refine hI.fact m hmd w'' ⟨hla.bel,Nat.le_trans hD.bel.size hla.size,fun b q hq h1 h2=> ?_⟩;have hqd:=hI.reach m hmd q hq;obtain⟨e1,e2,e3⟩:=eu q (hne q hqd);have hqi:q∈rs.getD j []:=((hreach j hin).2 m hm).2.1 q hq;rw[hla.block b q hqi (by rw[e2];exact h1) (by rw[e3];exact h2)];exact hD.bel.block b (Nat.lt_of_lt_of_le h2 (hI.iv q hqd).2.2)
      ·obtain ⟨e1,e2,e3⟩:=eu j (hne j hj);rw[e1,e2,e3];refine hI.fact j hj w'' ⟨hla.bel,Nat.le_trans hD.bel.size hla.size,fun b q hq h1 h2=> ?_⟩;have hqd:=hI.reach j hj q hq;obtain⟨e1,e2,e3⟩:=eu q (hne q hqd);rw[hla.block b q hq (by rw[e2];exact h1) (by rw[e3];exact h2)];exact hD.bel.block b (Nat.lt_of_lt_of_le h2 (hI.iv q hqd).2.2)
theorem region_flow {id:Nat} {a0:Act} {w:World} (hm:P.follows .mixedOrders=true)(ns:List Nat)(rs:List (List Nat))(boxes:List Nat)(R:Nat->Value->Nat->Nat->World->Prop)(hc:flowB ops ns rs=true)
 (hs: ∀i∈ns,∀o,ops[i]?=some o-> ∀(f:Nat->Value) (lo hi:Nat->Nat) (w':World),Below w.heap.size w w'->(∀j∈rs.getD i [],j≠i->R j (f j) (lo j) (hi j) w')->wpOp P ops Q i (fun a' w''=> ∃v,Did w.heap.size w.drew ops rs R f lo hi (putA ops ns f a0) i w' a' w'' v) (putA ops ns f a0) w')
 (he: ∀(fuel:Nat) (L:Array Bool) (f:Nat->Value) (lo hi:Nat->Nat) (w':World),fuel+ns.length=ops.size->L=(Array.range ops.size).map (fun i=>ns.contains i)->Below w.heap.size w w'->(∀i∈ns,R i (f i) (lo i) (hi i) w')->(∀k∈boxes,k∈ns->w.heap.size<=lo k/\hi k<=w'.heap.size)->
  (∀w'',Below w.heap.size w w''->w'.heap.size<=w''.heap.size->(∀b,b<w'.heap.size->(∀k∈boxes,¬(lo k<=b/\b<hi k))->w''.heap[b]?=w'.heap[b]?)-> ∀i∈ns,(∀k∈boxes,k∈ns/\k∉rs.getD i [])->R i (f i) (lo i) (hi i) w'')->
  wpAny P .any ops Q fuel L (putA ops ns f a0) w'):
 (Code.region id ops true).wp P Q a0 w:=by
 have key: ∀w':World,Below w.heap.size w.drew w'->Below w.heap.size w w':=fun w' h=>⟨h.os,h.tape,h.output,h.size,h.block⟩
 have yek: ∀w':World,Below w.heap.size w w'->Below w.heap.size w.drew w':=fun w' h=>⟨h.os,h.tape,h.output,h.size,h.block⟩
 obtain⟨_,hslots,_⟩:=zH8 hc;refine wp_region_any hm (flow_any (w0:=w.drew) (a0:=a0) R boxes hc (fun i hi o ho f lo hi' w' hb h=>hs i hi o ho f lo hi' w' (key w' hb) h) (fun fuel L f lo hi w' h1 h2 h3 h4 h5 h6=>he fuel L f lo hi w' h1 h2 (key w' h3) h4 h5 (fun w'' hb=>h6 w'' (yek w'' hb))) ops.size _ (fun i=>a0.tmps.getD ((dOf ops i).getD 0) undef) (fun _=>0) (fun _=>0) a0 w.drew (by simp) ?_ ?_)
 ·have e:ns.filter (fun i=>(Array.replicate ops.size false).getD i false)=[]:=List.filter_eq_nil_iff.2 fun i _=>by
   simp only[Array.getD_eq_getD_getElem?,Array.getElem?_replicate];split<;>simp
  rw[e];rfl
 ·have e: ∀i,(Array.replicate ops.size false).getD i false=true->False:=fun i h=>by
   simp only[Array.getD_eq_getD_getElem?,Array.getElem?_replicate]at h;split at h<;>simp at h
  exact⟨(zG6 ns a0 hslots).symm,Below.refl _ _,fun i h=>(e i h).elim,fun i o _ h=>(e i h).elim,fun i h=>(e i h).elim,fun i h=>(e i h).elim,fun i j h=>(e i h).elim,fun i h=>(e i h).elim⟩
def tailB(ops:Array Oper):Array Bool->List Nat->Bool
 |L,[]=>decide (Region.ready .any ops L=[])
 |L,t::ts=>decide (Region.ready .any ops L=[t])&&tailB ops (L.setIfInBounds t true) ts
theorem any_tail: ∀(ts:List Nat) (fuel:Nat) (L:Array Bool) (a:Act) (w:World),fuel=ts.length->tailB ops L ts=true->wpOps P ops Q ts a w->wpAny P .any ops Q fuel L a w
 | [],fuel,L,a,w,hf,h,hw=>by
   simp only[tailB,decide_eq_true_eq]at h;exact wpAny_done h hw fuel
 |t::ts,fuel,L,a,w,hf,h,hw=>by
  simp only[tailB,Bool.and_eq_true,decide_eq_true_eq]at h;obtain⟨fuel,rfl⟩: ∃k,fuel=k+1:=⟨ts.length,hf⟩;refine wpAny_all h.1 (List.cons_ne_nil _ _) fun i hi=> ?_
  obtain rfl:=List.mem_singleton.1 hi;rw[wpOps_cons]at hw;exact wpOp_mono (fun a' w' h'=>any_tail ts fuel _ a' w' (by simpa using hf) h.2 h') hw
theorem region_flows {id:Nat} {a0:Act} {w:World} (hm:P.follows .mixedOrders=true)(ns:List Nat)(rs:List (List Nat))(boxes ts:List Nat)(R:Nat->Value->Nat->Nat->World->Prop)
 (hc:(flowB ops ns rs&&decide (ts.length+ns.length=ops.size)&&tailB ops ((Array.range ops.size).map (fun i=>ns.contains i)) ts)=true)
 (hs: ∀i∈ns,∀o,ops[i]?=some o-> ∀(f:Nat->Value) (lo hi:Nat->Nat) (w':World),Below w.heap.size w w'->(∀j∈rs.getD i [],j≠i->R j (f j) (lo j) (hi j) w')->wpOp P ops Q i (fun a' w''=> ∃v,Did w.heap.size w.drew ops rs R f lo hi (putA ops ns f a0) i w' a' w'' v) (putA ops ns f a0) w')
 (he: ∀(f:Nat->Value) (lo hi:Nat->Nat) (w':World),Below w.heap.size w w'->(∀i∈ns,R i (f i) (lo i) (hi i) w')->(∀k∈boxes,k∈ns->w.heap.size<=lo k/\hi k<=w'.heap.size)->
  (∀w'',Below w.heap.size w w''->w'.heap.size<=w''.heap.size->(∀b,b<w'.heap.size->(∀k∈boxes,¬(lo k<=b/\b<hi k))->w''.heap[b]?=w'.heap[b]?)-> ∀i∈ns,(∀k∈boxes,k∈ns/\k∉rs.getD i [])->R i (f i) (lo i) (hi i) w'')->
  wpOps P ops Q ts (putA ops ns f a0) w'):
 (Code.region id ops true).wp P Q a0 w:=by
 simp only[Bool.and_eq_true,decide_eq_true_eq]at hc;obtain⟨⟨hc,hl⟩,ht⟩:=hc;refine region_flow hm ns rs boxes R hc hs fun fuel L f lo hi w' h1 h2 h3 h4 h5 h6=> ?_
 subst h2;exact any_tail ts fuel _ _ w' (by omega) ht (he f lo hi w' h3 h4 h5 h6)
def putS:List (Nat×Tmp)->(Nat->Value)->Act->Act
 | [],_,a=>a
 |x::l,f,a=>putS l f (a.put (some x.2) (f x.1))
theorem putS_is {ops:Array Oper}: ∀(sl:List (Nat×Tmp)) (f:Nat->Value) (a:Act),sl.all (fun x=>dOf ops x.1==some x.2)=true->putA ops (sl.map (·.1)) f a=putS sl f a
 | [],_,_,_=>rfl
 |x::l,f,a,h=>by
  simp only[List.all_cons,Bool.and_eq_true,beq_iff_eq]at h;simp only[List.map_cons,putA,putS];rw[h.1];exact putS_is l f _ h.2
def Steps(P:Program)(ops:Array Oper)(Q:Exit->Act->World->Prop)(w:World)(rs:List (List Nat))(R:Nat->Value->Nat->Nat->World->Prop)(A:(Nat->Value)->Act)(l:List Nat):Prop:=
 ∀i∈l,∀o,ops[i]?=some o-> ∀(f:Nat->Value) (lo hi:Nat->Nat) (w':World),Below w.heap.size w w'->(∀j∈rs.getD i [],j≠i->R j (f j) (lo j) (hi j) w')->
  ∀K:Act->World->Prop,(∀v w'',Below w'.heap.size w' w''->(∀W,Below w.heap.size w W->w''.heap.size<=W.heap.size->(∀b,w'.heap.size<=b->b<w''.heap.size->W.heap[b]?=w''.heap[b]?)->(∀j∈rs.getD i [],j≠i->R j (f j) (lo j) (hi j) W)->R i v w'.heap.size w''.heap.size W)->K ((A f).put o.dst v) w'')->
   if Region.wanted o (yielded ops (A f).tmps)=true then Oper.wp P o (A f) w' K Q else K ((A f).put o.dst undef) w'
theorem Steps.nil {w:World} {rs:List (List Nat)} {R:Nat->Value->Nat->Nat->World->Prop} {A:(Nat->Value)->Act}:Steps P ops Q w rs R A []:=fun i hi=>by cases hi
theorem Steps.cons {w:World} {rs:List (List Nat)} {R:Nat->Value->Nat->Nat->World->Prop} {A:(Nat->Value)->Act} {i:Nat} {l:List Nat} {o:Oper} (ho:ops[i]?=some o)
 (h: ∀(f:Nat->Value) (lo hi:Nat->Nat) (w':World),Below w.heap.size w w'->(∀j∈rs.getD i [],j≠i->R j (f j) (lo j) (hi j) w')->
 ∀K:Act->World->Prop,(∀v w'',Below w'.heap.size w' w''->(∀W,Below w.heap.size w W->w''.heap.size<=W.heap.size->(∀b,w'.heap.size<=b->b<w''.heap.size->W.heap[b]?=w''.heap[b]?)->(∀j∈rs.getD i [],j≠i->R j (f j) (lo j) (hi j) W)->R i v w'.heap.size w''.heap.size W)->K ((A f).put o.dst v) w'')->
  if Region.wanted o (yielded ops (A f).tmps)=true then Oper.wp P o (A f) w' K Q else K ((A f).put o.dst undef) w')
 (hs:Steps P ops Q w rs R A l):Steps P ops Q w rs R A (i::l):=fun j hj=>by
 rcases List.mem_cons.1 hj with rfl|hj
 ·intro o' ho';obtain rfl:=Option.some.inj (ho.symm.trans ho');exact h
 ·exact hs j hj
def flowsB(ops:Array Oper)(sl:List (Nat×Tmp))(rs:List (List Nat))(ts:List Nat):Bool:=
 flowB ops (sl.map (·.1)) rs&&sl.all (fun x=>dOf ops x.1==some x.2)&&decide (ts.length+(sl.map (·.1)).length=ops.size)&&tailB ops ((Array.range ops.size).map (fun i=>(sl.map (·.1)).contains i)) ts
theorem zB {id:Nat} {a0:Act} {w:World} (hm:P.follows .mixedOrders=true)(sl:List (Nat×Tmp))(rs:List (List Nat))(boxes ts:List Nat)(R:Nat->Value->Nat->Nat->World->Prop)
 (A:(Nat->Value)->Act) (hA: ∀f,putS sl f a0=A f) (hc:flowsB ops sl rs ts=true)
 (hs:Steps P ops Q w rs R A (sl.map (·.1)))
 (he: ∀(f:Nat->Value) (lo hi:Nat->Nat) (w':World),Below w.heap.size w w'->(∀i∈sl.map (·.1),R i (f i) (lo i) (hi i) w')->(∀k∈boxes,k∈sl.map (·.1)->w.heap.size<=lo k/\hi k<=w'.heap.size)->
  (∀w'',Below w.heap.size w w''->w'.heap.size<=w''.heap.size->(∀b,b<w'.heap.size->(∀k∈boxes,¬(lo k<=b/\b<hi k))->w''.heap[b]?=w'.heap[b]?)-> ∀i∈sl.map (·.1),(∀k∈boxes,k∈sl.map (·.1)/\k∉rs.getD i [])->R i (f i) (lo i) (hi i) w'')->
  wpOps P ops Q ts (A f) w'):
 (Code.region id ops true).wp P Q a0 w:=by
 simp only[flowsB,Bool.and_eq_true,decide_eq_true_eq]at hc;obtain⟨⟨⟨hc,hsl⟩,hl⟩,ht⟩:=hc;have hAA: ∀f,putA ops (sl.map (·.1)) f a0=A f:=fun f=>(putS_is sl f a0 hsl).trans (hA f)
 refine region_flows hm (sl.map (·.1)) rs boxes ts R (by simp only[hc,ht,hl,decide_true,Bool.and_self]) (fun i hi o ho f lo hi' w' hb hd=> ?_) (fun f lo hi w' h1 h2 h3 h4=> ?_)
 ·rw[hAA f];refine wpOp_step ho fun K hK=> ?_
  refine hs i hi o ho f lo hi' w' hb hd K fun v w'' h1 h2=>hK _ _ ⟨v,?_,h1,fun W a b c d=>h2 W ⟨a.os,a.tape,a.output,a.size,a.block⟩ b c d⟩
  unfold dOf;rw[ho];rfl
 ·rw[hAA f];exact he f lo hi w' h1 h2 h3 h4
theorem zp6 {i:Nat} {ts:List Nat} {o:Oper} {a:Act} {w:World} (ho:ops[i]?=some o)(h:if Region.wanted o (yielded ops a.tmps)=true then Oper.wp P o a w (wpOps P ops Q ts) Q else wpOps P ops Q ts (a.put o.dst undef) w):wpOps P ops Q (i::ts) a w:=by
 unfold wpOps;rw[ho];show if Region.wanted o (yielded ops a.tmps)=true then _ else _
 split
 ·rename_i hw;rw[if_pos hw]at h;exact .inl h
 ·rename_i hw;rw[if_neg hw]at h;exact h
theorem zn6 {a:Act} {w:World} (h:Q .normal a w):wpOps P ops Q [] a w:=h
end
end Go.Proofs.YtkafjblfjdpdaaaGreatDoor
