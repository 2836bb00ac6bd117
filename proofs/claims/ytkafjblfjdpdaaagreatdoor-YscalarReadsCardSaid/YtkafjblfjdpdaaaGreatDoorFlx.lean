/-
  A REGION THAT DRAWS ITS ORDER, as a flow, with stores into boxes of the region's own: one walk an operation, whatever the order.
-/
import Derived.Test.YtkafjblfjdpdaaaGreatDoorFlw
namespace Go.Proofs.YtkafjblfjdpdaaaGreatDoor
open Go.RowKit
def boxOf(st:List (Nat×Nat))(s:Nat):Option Nat:=(st.find? (fun x=>x.1==s)).map (·.2)
def zz(st:List (Nat×Nat))(L:Nat->Bool)(k:Nat):Bool:=st.any fun x=>x.2==k&&L x.1
def flowSB(ops:Array Oper)(ns:List Nat)(rs:List (List Nat))(st:List (Nat×Nat))(dp:List (List Nat)):Bool:=
 zs6 ops ns&&ns.all (fun i=>decide (i<ops.size)&&!(st.map (·.1)).contains i)&&
 (List.range ops.size).all (fun i=>(ns.contains i||(st.map (·.1)).contains i)&&(ops[i]?.map (fun o=>o.after.all (fun e=> !Region.binds .any e||decide (e.on<i)))).getD false)&&
 ns.all (fun i=>(rs.getD i []).contains i&&(rs.getD i []).all (fun j=>ns.contains j&&(rs.getD j []).all (fun m=>(rs.getD i []).contains m)&&
  (j==i||(ops[i]?.map (fun o=>o.after.any (fun e=>Region.binds .any e&&(rs.getD e.on []).contains j&&ns.contains e.on))).getD false)&&(j==i||!(st.map (·.2)).contains j)))&&
 st.all (fun x=>ns.contains x.2&&(rs.getD x.1 []==[x.1])&&decide (x.1<ops.size)&&(dOf ops x.1).isNone&&(boxOf st x.1==some x.2)&&st.all (fun y=>y.2 !=x.2||y.1==x.1)&&
  (x.2::dp.getD x.1 []).all (fun j=>ns.contains j&&(j==x.2||!(st.map (·.2)).contains j)&&(ops[x.1]?.map (fun o=>o.after.any (fun e=>Region.binds .any e&&ns.contains e.on&&(rs.getD e.on []).contains j))).getD false))
section
variable {P:Program} {ops:Array Oper} {Q:Exit->Act->World->Prop}
structure LaterS(B:Nat)(w0:World)(rs:List (List Nat))(lo hi:Nat->Nat)(i:Nat)(w w':World):Prop where
 bel:Below B w0 w'
 size:w.heap.size<=w'.heap.size
 block: ∀b j,j∈rs.getD i []->lo j<=b->b<hi j->w'.heap[b]?=w.heap[b]?
structure FlowS(B:Nat)(w0:World)(a0:Act)(ops:Array Oper)(ns:List Nat)(rs:List (List Nat))(st:List (Nat×Nat))(R:Nat->Value->Nat->Nat->World->Prop)(sv:Nat->Nat)(L:Nat->Bool)(f:Nat->Value)(lo hi:Nat->Nat)(a:Act)(w:World):Prop where
 act:a=putA ops ns f a0
 bel:Below B w0 w
 deps: ∀i o,ops[i]?=some o->L i=true-> ∀e∈o.after,Region.binds .any e=true->L e.on=true
 reach: ∀i,L i=true-> ∀j∈rs.getD i [],L j=true
 iv: ∀i,L i=true->B<=lo i/\lo i<=hi i/\hi i<=w.heap.size
 ap: ∀i j,L i=true->L j=true->zz st L i=false->zz st L j=false->i≠j->hi i<=lo j\/hi j<=lo i
 fact: ∀i,L i=true->zz st L i=false-> ∀w',LaterS B w0 rs lo hi i w w'->R i (f (sv i)) (lo i) (hi i) w'
theorem goneB_false {st:List (Nat×Nat)} {L:Nat->Bool} {k:Nat}:zz st L k=false↔ ∀x∈st,x.2=k->L x.1=false:=by
 unfold zz;rw[List.any_eq_false];constructor
 ·intro h x hx he;have:=h x hx;simp only[Bool.and_eq_true,beq_iff_eq,not_and,Bool.not_eq_true]at this;exact this he
 ·intro h x hx;simp only[Bool.and_eq_true,beq_iff_eq,not_and,Bool.not_eq_true];exact fun he=>h x hx he
theorem flowS_any {w0:World} {a0:Act} {ns:List Nat} {rs:List (List Nat)} {st:List (Nat×Nat)} {dp:List (List Nat)} (R:Nat->Value->Nat->Nat->World->Prop)(sv:Nat->Nat)(hsv:(∀i∈ns,sv i=i)/\ ∀x∈st,sv x.1=x.1\/sv x.1∈x.2::dp.getD x.1 [])(RB:Nat->Value->Nat->Nat->Prop)(hRB: ∀x∈st,∀v lo hi W,R x.2 v lo hi W->RB x.2 v lo hi)(hc:flowSB ops ns rs st dp=true)
 (hs: ∀i∈ns,∀o,ops[i]?=some o-> ∀(f:Nat->Value) (lo hi:Nat->Nat) (w:World),Below w0.heap.size w0 w->(∀j∈rs.getD i [],j≠i->R j (f j) (lo j) (hi j) w)->wpOp P ops Q i (fun a' w'=> ∃v,Did w0.heap.size w0 ops rs R f lo hi (putA ops ns f a0) i w a' w' v) (putA ops ns f a0) w)
 (ht: ∀x∈st,∀o,ops[x.1]?=some o-> ∀(f:Nat->Value) (lo hi:Nat->Nat) (w:World),Below w0.heap.size w0 w->w0.heap.size<=lo x.2->(∀j∈x.2::dp.getD x.1 [],R j (f j) (lo j) (hi j) w)->wpOp P ops Q x.1 (fun a' w'=>a'=putA ops ns f a0/\Below w0.heap.size w0 w'/\w'.heap.size=w.heap.size/\(∀b,b<w.heap.size-> ¬(lo x.2<=b/\b<hi x.2)->w'.heap[b]?=w.heap[b]?)/\
  ∀W,Below w0.heap.size w0 W->w'.heap.size<=W.heap.size->(∀b,lo x.2<=b->b<hi x.2->W.heap[b]?=w'.heap[b]?)->R x.1 (f (sv x.1)) (lo x.2) (hi x.2) W) (putA ops ns f a0) w)
 (he: ∀(f:Nat->Value) (lo hi:Nat->Nat) (w:World),Below w0.heap.size w0 w->(∀i,(i∈ns/\i∉st.map (·.2))\/i∈st.map (·.1)->R i (f (sv i)) (lo i) (hi i) w)->(∀x∈st,lo x.1=lo x.2/\hi x.1=hi x.2/\w0.heap.size<=lo x.2/\hi x.2<=w.heap.size/\RB x.2 (f x.2) (lo x.2) (hi x.2))->Q .normal (putA ops ns f a0) w):
 ∀(fuel:Nat) (L:Array Bool) (f:Nat->Value) (lo hi:Nat->Nat) (a:Act) (w:World),L.size=ops.size->L.toList.count false<=fuel->((∀x∈st,L.getD x.1 false=true->lo x.1=lo x.2/\hi x.1=hi x.2)/\ ∀x∈st,L.getD x.2 false=true->RB x.2 (f x.2) (lo x.2) (hi x.2))->FlowS w0.heap.size w0 a0 ops ns rs st R sv (fun i=>L.getD i false) f lo hi a w->wpAny P .any ops Q fuel L a w:=by
 simp only[flowSB,Bool.and_eq_true,List.all_eq_true,decide_eq_true_eq,Bool.or_eq_true,beq_iff_eq,List.mem_range,Bool.not_eq_true',List.contains_eq_mem,decide_eq_false_iff_not,bne_iff_ne,ne_eq]at hc;obtain⟨⟨⟨⟨hslots,hnsl⟩,hall⟩,hreach⟩,hst⟩:=hc;have slot_st: ∀ {x:Nat×Nat},x∈st->x.2∈ns/\rs.getD x.1 []=[x.1]/\x.1<ops.size/\dOf ops x.1=none/\(∀y∈st,y.2=x.2->y.1=x.1)/\(∀j∈x.2::dp.getD x.1 [],j∈ns/\(j=x.2\/j∉st.map (·.2))/\ ∃o,ops[x.1]?=some o/\ ∃e∈o.after,Region.binds .any e=true/\e.on∈ns/\j∈rs.getD e.on []):=fun {x} hx=>by
  obtain⟨⟨⟨⟨⟨⟨h1,h2⟩,h3⟩,h4⟩,h5⟩,h6⟩,h7⟩:=hst x hx;refine⟨h1,h2,h3,by simpa using h4,fun y hy e=>(h6 y hy).resolve_left (fun h=>h e),fun j hj=> ?_⟩;obtain⟨⟨h8,h9⟩,h10⟩:=h7 j hj;refine⟨h8,h9.imp id (by simp),?_⟩;cases ho:ops[x.1]? with
  |none=>rw[ho]at h10;cases h10
  |some o=>
   rw[ho,Option.map_some,Option.getD_some]at h10;obtain⟨k,hk,h11⟩:=Array.any_eq_true.1 h10;simp only[Bool.and_eq_true,decide_eq_true_eq]at h11;exact⟨o,rfl,_,Array.getElem_mem hk,h11.1.1,h11.1.2,h11.2⟩
 have hns: ∀ {i},i∈ns->i∈rs.getD i []/\ ∀j∈rs.getD i [],j∈ns/\(∀m∈rs.getD j [],m∈rs.getD i [])/\(j=i\/(j∉st.map (·.2)/\ ∃o,ops[i]?=some o/\ ∃e∈o.after,Region.binds .any e=true/\e.on∈ns/\j∈rs.getD e.on [])):=fun {i} hi=>by
  refine⟨(hreach i hi).1,fun j hj=> ?_⟩;obtain⟨⟨⟨h1,h2⟩,h3⟩,h4⟩:=(hreach i hi).2 j hj;refine⟨h1,h2,?_⟩;by_cases hji:j=i
  ·exact .inl hji
  ·refine .inr ⟨by simpa using h4.resolve_left hji,?_⟩;have h5:=h3.resolve_left hji;cases ho:ops[i]? with
   |none=>rw[ho]at h5;cases h5
   |some o=>
    rw[ho,Option.map_some,Option.getD_some]at h5;obtain⟨k,hk,h6⟩:=Array.any_eq_true.1 h5;simp only[Bool.and_eq_true,decide_eq_true_eq]at h6;exact⟨o,rfl,_,Array.getElem_mem hk,h6.1.1,h6.2,h6.1.2⟩
 have hns2: ∀ {i},i∈ns->i∉st.map (·.1):=fun {i} hi=>by
  have:=(hnsl i hi).2;simpa using this
 have fact': ∀ {L:Nat->Bool} {f:Nat->Value} {lo hi:Nat->Nat} {a:Act} {w:World},FlowS w0.heap.size w0 a0 ops ns rs st R sv L f lo hi a w-> ∀i∈ns,L i=true->zz st L i=false-> ∀w',LaterS w0.heap.size w0 rs lo hi i w w'->R i (f i) (lo i) (hi i) w':=fun {L f lo hi a w} hI i hi h1 h2 w' h3=>by
  have h4:=hI.fact i h1 h2 w' h3;rwa [hsv.1 i hi]at h4
 intro fuel;have nd: ∀(L:Array Bool) (f:Nat->Value) (lo hi:Nat->Nat) (a:Act) (w:World),L.size=ops.size->((∀x∈st,L.getD x.1 false=true->lo x.1=lo x.2/\hi x.1=hi x.2)/\ ∀x∈st,L.getD x.2 false=true->RB x.2 (f x.2) (lo x.2) (hi x.2))->FlowS w0.heap.size w0 a0 ops ns rs st R sv (fun i=>L.getD i false) f lo hi a w->Region.ready .any ops L=[]->Q .normal a w:=by
  intro L f lo hi a w hz hbx hI hr;have done: ∀m i,i<m->i<ops.size->L.getD i false=true:=by
   intro m;induction m with
   |zero=>intro i hi;omega
   |succ m ihm=>
    intro i him hio;by_cases hLi:L.getD i false=true
    ·exact hLi
    exfalso;obtain⟨o,ho⟩: ∃o,ops[i]?=some o:=⟨ops[i],Array.getElem?_eq_getElem hio⟩;have h7:i∈Region.ready .any ops L:=mem_ready.2 ⟨by
     have:i<L.size:=by rw[hz];exact hio
     simp[this]at hLi ⊢;exact hLi,o,ho,fun e he' hb=>by
     have h6:=(hall i hio).2;rw[ho,Option.map_some,Option.getD_some]at h6;have h8:=Array.all_eq_true_iff_forall_mem.1 h6 e he';rw[hb]at h8;have h9:e.on<i:=by simpa using h8
     exact ihm e.on (by omega) (by omega)⟩
    rw[hr]at h7;cases h7
  have dn: ∀i,i<ops.size->L.getD i false=true:=fun i hi=>done (i+1) i (Nat.lt_succ_self i) hi
  rw[hI.act];refine he f lo hi w hI.bel (fun i hi'=> ?_) (fun x hx=> ?_)
  ·have hio:i<ops.size/\zz st (fun i=>L.getD i false) i=false:=by
    rcases hi' with ⟨h1,h2⟩|h1
    ·exact ⟨(hnsl i h1).1,goneB_false.2 (fun x hx e=>absurd (List.mem_map.2 ⟨x,hx,e⟩) h2)⟩
    ·obtain ⟨x,hx,rfl⟩:=List.mem_map.1 h1;refine⟨(slot_st hx).2.2.1,goneB_false.2 (fun y hy e=> ?_)⟩;exact absurd (List.mem_map.2 ⟨x,hx,rfl⟩) (hns2 (e▸(slot_st hy).1))
   exact hI.fact i (dn i hio.1) hio.2 w ⟨hI.bel,Nat.le_refl _,fun _ _ _ _ _=>rfl⟩
  ·have h1:=dn x.1 (slot_st hx).2.2.1;have h2:=dn x.2 (hnsl _ (slot_st hx).1).1;exact⟨(hbx.1 x hx h1).1,(hbx.1 x hx h1).2,(hI.iv x.2 h2).1,(hI.iv x.2 h2).2.2,hbx.2 x hx h2⟩
 have cnt: ∀(l:List Bool) (i:Nat),l[i]?=some false->(l.set i true).count false+1=l.count false:=by
  intro l;induction l with
  |nil=>intro i h;simp at h
  |cons b l ih=>
   intro i h;cases i with
   |zero=>
    simp at h;subst h;simp
   |succ i=>
    have:=ih i (by simpa using h);simp only[List.set_cons_succ,List.count_cons];omega
 have ls: ∀(L:Array Bool) i,i∈Region.ready .any ops L->L.size=ops.size->L.toList[i]?=some false:=fun L i hi hz=>by
  obtain⟨h1,o,ho,_⟩:=mem_ready.1 hi;have hi:i<L.size:=by rw[hz];exact(Array.getElem?_eq_some_iff.1 ho).1
  rw[Array.getElem?_toList,Array.getElem?_eq_getElem hi];simp[hi]at h1;rw[h1]
 induction fuel with
 |zero=>
  intro L f lo hi a w hz hcnt hbx hI;have hr:Region.ready .any ops L=[]:=List.eq_nil_iff_forall_not_mem.2 fun i hi=>by
   have:=cnt _ _ (ls L i hi hz);omega
  exact⟨hr,nd L f lo hi a w hz hbx hI hr⟩
 |succ fuel ih=>
  intro L f lo hi a w hz hcnt hbx hI;refine⟨nd L f lo hi a w hz hbx hI,fun i hi'=> ?_⟩;have hl:=ls L i hi' hz;obtain⟨h1,o,ho,hd⟩:=mem_ready.1 hi';obtain⟨hiz,hopen⟩:=getD_all h1;have hio:i<ops.size:=(Array.getElem?_eq_some_iff.1 ho).1;have hBw:w0.heap.size<=w.heap.size:=hI.bel.size;have hne: ∀j,L.getD j false=true->j≠i:=fun j hj e=>by rw[e,hopen]at hj;cases hj
  have hset: ∀j,(L.setIfInBounds i true).getD j false=(if j=i then true else L.getD j false):=fun j=>by
   by_cases hj:j=i
   ·subst hj;simp[hiz]
   ·rw[if_neg hj,getD_set_ne false (fun e=>hj e.symm)]
  have hsetT: ∀j,(L.setIfInBounds i true).getD j false=true->j=i\/L.getD j false=true:=fun j hj=>by
   rw[hset]at hj;by_cases h:j=i
   ·exact .inl h
   ·rw[if_neg h]at hj;exact .inr hj
  have hcnt2:((L.setIfInBounds i true).toList).count false<=fuel:=by
   have:=cnt _ _ hl;rw[Array.toList_setIfInBounds];omega
  have goneM: ∀j,zz st (fun i_1=>(L.setIfInBounds i true).getD i_1 false) j=false->zz st (fun i=>L.getD i false) j=false:=fun j h=>goneB_false.2 (fun x hx e=>by
   have h2:=goneB_false.1 h x hx e;rw[hset]at h2;by_cases h3:x.1=i
   ·rw[if_pos h3]at h2;cases h2
   ·rw[if_neg h3]at h2;exact h2)
  have hsz':(L.setIfInBounds i true).size=ops.size:=by rw[Array.size_setIfInBounds];exact hz
  rcases(hall i hio).1 with hin|hin
  ·-- an operation that makes a value
   have hdep: ∀j∈rs.getD i [],j≠i->L.getD j false=true/\zz st (fun i=>L.getD i false) j=false:=fun j hj hn=>by
    obtain⟨_,_,h5⟩:=(hns hin).2 j hj;rcases h5 with h5|⟨h5,o',ho',e,he',hb,h6,h7⟩
    ·exact absurd h5 hn
    ·rw[ho]at ho';obtain rfl:=Option.some.inj ho';exact⟨hI.reach e.on (hd e he' hb) j h7,goneB_false.2 (fun x hx e=>absurd (List.mem_map.2 ⟨x,hx,e⟩) h5)⟩
   have hw:=hs i hin o ho f lo hi w hI.bel (fun j hj hn=>fact' hI j ((hns hin).2 j hj).1 (hdep j hj hn).1 (hdep j hj hn).2 w ⟨hI.bel,Nat.le_refl _,fun _ _ _ _ _=>rfl⟩);rw[←hI.act]at hw;refine wpOp_mono (fun a' w' h=> ?_) hw;obtain⟨v,hD⟩:=h;have eu: ∀j,j≠i->upd f i v j=f j/\updN lo i w.heap.size j=lo j/\updN hi i w'.heap.size j=hi j:=fun j hj=>⟨if_neg hj,if_neg hj,if_neg hj⟩
   have ei:upd f i v i=v/\updN lo i w.heap.size i=w.heap.size/\updN hi i w'.heap.size i=w'.heap.size:=⟨if_pos rfl,if_pos rfl,if_pos rfl⟩;have hsn: ∀j,L.getD j false=true->upd f i v (sv j)=f (sv j):=fun j hj=>if_neg (by
    have hjo:j<ops.size:=by
     rcases Nat.lt_or_ge j L.size with h|h
     ·rw[←hz];exact h
     ·simp[Nat.not_lt.2 h]at hj
    rcases(hall j hjo).1 with hjn|hjs
    ·rw[hsv.1 j hjn];exact hne j hj
    ·obtain ⟨x,hx,rfl⟩:=List.mem_map.1 hjs;rcases hsv.2 x hx with h|h
     ·rw[h];exact hne _ hj
     ·obtain ⟨_,_,o2,ho2,e,he',hb,h6,h7⟩:=(slot_st hx).2.2.2.2.2 _ h;exact hne _ (hI.reach e.on (hI.deps x.1 o2 ho2 hj e he' hb) _ h7))
   have hN:FlowS w0.heap.size w0 a0 ops ns rs st R sv (fun j=>(L.setIfInBounds i true).getD j false) (upd f i v) (updN lo i w.heap.size) (updN hi i w'.heap.size) a' w':=by
    refine⟨?_,hI.bel.trans (hD.bel.mono hBw),?_,?_,?_,?_,?_⟩
    ·rw[hD.act,hI.act];exact zO7 ns f a0 i v hslots hin
    ·intro j o' ho' hj e he' hb;rcases hsetT j hj with rfl|hj
     ·rw[ho]at ho';obtain rfl:=Option.some.inj ho';rw[hset];split
      ·rfl
      ·exact hd e he' hb
     ·rw[hset];split
      ·rfl
      ·exact hI.deps j o' ho' hj e he' hb
    ·intro j hj m hm;rcases hsetT j hj with rfl|hj
     ·rw[hset];split
      ·rfl
      ·rename_i h;exact(hdep m hm h).1
     ·rw[hset];split
      ·rfl
      ·exact hI.reach j hj m hm
    ·intro j hj;rcases hsetT j hj with rfl|hj
     ·rw[ei.2.1,ei.2.2];exact⟨hBw,hD.bel.size,Nat.le_refl _⟩
     ·obtain ⟨e1,e2,e3⟩:=eu j (hne j hj);rw[e2,e3];have:=hI.iv j hj;exact⟨this.1,this.2.1,Nat.le_trans this.2.2 hD.bel.size⟩
    ·intro j m hj hm hgj hgm hjm;rcases hsetT j hj with hj'|hj'
     ·rcases hsetT m hm with hm'|hm'
      ·exact absurd (hj'.trans hm'.symm) hjm
      ·obtain ⟨e1,e2,e3⟩:=eu m (hne m hm');rw[hj',ei.2.1,ei.2.2,e2,e3];exact .inr (hI.iv m hm').2.2
     ·rcases hsetT m hm with hm'|hm'
      ·obtain ⟨e1,e2,e3⟩:=eu j (hne j hj');rw[hm',ei.2.1,ei.2.2,e2,e3];exact .inl (hI.iv j hj').2.2
      ·obtain ⟨e1,e2,e3⟩:=eu j (hne j hj');obtain⟨e4,e5,e6⟩:=eu m (hne m hm');rw[e2,e3,e5,e6];exact hI.ap j m hj' hm' (goneM j hgj) (goneM m hgm) hjm
    ·intro j hj hgj w'' hla;rcases hsetT j hj with hj'|hj'
     ·rw[hj',hsv.1 i hin,ei.1,ei.2.1,ei.2.2];subst hj';refine hD.fact w'' hla.bel hla.size (fun b h1 h2=>hla.block b j (hns hin).1 (by rw[ei.2.1];exact h1) (by rw[ei.2.2];exact h2)) (fun m hm hmj=> ?_);obtain⟨hmd,hmg⟩:=hdep m hm hmj;refine fact' hI m ((hns hin).2 m hm).1 hmd hmg w'' ⟨hla.bel,Nat.le_trans hD.bel.size hla.size,fun b q hq h1 h2=> ?_⟩;have hqd:=hI.reach m hmd q hq;obtain⟨e1,e2,e3⟩:=eu q (hne q hqd);have hqi:q∈rs.getD j []:=((hns hin).2 m hm).2.1 q hq;rw[hla.block b q hqi (by rw[e2];exact h1) (by rw[e3];exact h2)];exact hD.bel.block b (Nat.lt_of_lt_of_le h2 (hI.iv q hqd).2.2)
     ·obtain ⟨e1,e2,e3⟩:=eu j (hne j hj');rw[hsn j hj',e2,e3];refine hI.fact j hj' (goneM j hgj) w'' ⟨hla.bel,Nat.le_trans hD.bel.size hla.size,fun b q hq h1 h2=> ?_⟩;have hqd:=hI.reach j hj' q hq;obtain⟨e1,e2,e3⟩:=eu q (hne q hqd);rw[hla.block b q hq (by rw[e2];exact h1) (by rw[e3];exact h2)];exact hD.bel.block b (Nat.lt_of_lt_of_le h2 (hI.iv q hqd).2.2)
   refine ih (L.setIfInBounds i true) (upd f i v) (updN lo i w.heap.size) (updN hi i w'.heap.size) a' w' hsz' hcnt2 ⟨fun x hx hLx=> ?_,fun x hx hLx=> ?_⟩ hN
   ·rcases hsetT x.1 hLx with hx'|hx'
    ·exact absurd (List.mem_map.2 ⟨x,hx,hx'⟩) (hns2 hin)
    ·-- the store is done:so is its box
     have hbd:L.getD x.2 false=true:=by
      obtain⟨o2,ho2,e,he',hb,h6,h7⟩:=((slot_st hx).2.2.2.2.2 x.2 List.mem_cons_self).2.2;exact hI.reach e.on (hI.deps x.1 o2 ho2 hx' e he' hb) x.2 h7
     obtain⟨_,e2,e3⟩:=eu x.1 (hne _ hx');obtain⟨_,e5,e6⟩:=eu x.2 (hne _ hbd);rw[e2,e3,e5,e6];exact hbx.1 x hx hx'
   ·rcases hsetT x.2 hLx with hx'|hx'
    ·refine hRB x hx _ _ _ w' (fact' hN x.2 (slot_st hx).1 (by show(L.setIfInBounds i true).getD x.2 false=true;rw[hset,if_pos hx']) (goneB_false.2 (fun y hy e=> ?_)) w' ⟨hN.bel,Nat.le_refl _,fun _ _ _ _ _=>rfl⟩);show(L.setIfInBounds i true).getD y.1 false=false;have hy1:y.1=x.1:=(slot_st hx).2.2.2.2.1 y hy e;have hyi:y.1≠i:=fun e2=>hns2 hin (e2▸List.mem_map.2 ⟨y,hy,rfl⟩)
     rw[hset,if_neg hyi];cases hLy:L.getD y.1 false with
     |false=>rfl
     |true=>
      exfalso;obtain⟨o2,ho2,e3,he',hb,h6,h7⟩:=((slot_st hx).2.2.2.2.2 x.2 List.mem_cons_self).2.2;rw[←hy1]at ho2;have h8:=hI.reach e3.on (hI.deps y.1 o2 ho2 hLy e3 he' hb) x.2 h7;exact hne _ h8 hx'
    ·obtain ⟨e4,e5,e6⟩:=eu x.2 (hne _ hx');rw[e4,e5,e6];exact hbx.2 x hx hx'
  ·-- a store
   obtain⟨x,hx,rfl⟩:=List.mem_map.1 hin;obtain⟨hb1,hb2,hb3,hb4,hb5,hb6⟩:=slot_st hx;have hdep: ∀j∈x.2::dp.getD x.1 [],L.getD j false=true/\zz st (fun i=>L.getD i false) j=false:=fun j hj=>by
    obtain⟨h5,h6,o',ho',e,he',hb,h7,h8⟩:=hb6 j hj;rw[ho]at ho';obtain rfl:=Option.some.inj ho';refine⟨hI.reach e.on (hd e he' hb) j h8,goneB_false.2 (fun y hy e=> ?_)⟩;rcases h6 with h6|h6
    ·have:=hb5 y hy (e.trans h6);show L.getD y.1 false=false;rw[this];exact hopen
    ·exact absurd (List.mem_map.2 ⟨y,hy,e⟩) h6
   have hbox:=hdep x.2 List.mem_cons_self;have hw:=ht x hx o ho f lo hi w hI.bel (hI.iv x.2 hbox.1).1 (fun j hj=>fact' hI j (hb6 j hj).1 (hdep j hj).1 (hdep j hj).2 w ⟨hI.bel,Nat.le_refl _,fun _ _ _ _ _=>rfl⟩);rw[←hI.act]at hw;refine wpOp_mono (fun a' w' h=> ?_) hw;obtain⟨ha',hbl,hsz,hoth,hfact⟩:=h;have en: ∀j,j≠x.1->updN lo x.1 (lo x.2) j=lo j/\updN hi x.1 (hi x.2) j=hi j:=fun j hj=>⟨if_neg hj,if_neg hj⟩
   have ei:updN lo x.1 (lo x.2) x.1=lo x.2/\updN hi x.1 (hi x.2) x.1=hi x.2:=⟨if_pos rfl,if_pos rfl⟩;have hne2:x.2≠x.1:=fun e=>hns2 hb1 (e▸hin)
   have gone2: ∀j,zz st (fun i=>(L.setIfInBounds x.1 true).getD i false) j=false->j≠x.2:=fun j h e=>by
    have:=goneB_false.1 h x hx e.symm;rw[hset,if_pos rfl]at this;cases this
   have far: ∀j,L.getD j false=true->zz st (fun i=>L.getD i false) j=false->j≠x.2-> ∀q∈rs.getD j [],∀b,lo q<=b->b<hi q->w'.heap[b]?=w.heap[b]?:=fun j hj hg hjx q hq b h1 h2=>by
    have hqd:=hI.reach j hj q hq;have hqx:q≠x.2/\zz st (fun i=>L.getD i false) q=false:=by
     rcases(hall j (by
      rcases Nat.lt_or_ge j L.size with h|h
      ·rw[←hz];exact h
      ·simp[Nat.not_lt.2 h]at hj)).1 with hjn|hjs
     ·obtain ⟨_,_,h5⟩:=(hns hjn).2 q hq;rcases h5 with rfl|⟨h5,_⟩
      ·exact ⟨hjx,hg⟩
      ·exact ⟨fun e=>h5 (e▸List.mem_map.2 ⟨x,hx,rfl⟩),goneB_false.2 (fun y hy e=>absurd (List.mem_map.2 ⟨y,hy,e⟩) h5)⟩
     ·obtain ⟨y,hy,rfl⟩:=List.mem_map.1 hjs;rw[(slot_st hy).2.1,List.mem_singleton]at hq;subst hq;exact⟨hjx,hg⟩
    refine hoth b (Nat.lt_of_lt_of_le h2 (hI.iv q hqd).2.2) (fun ⟨h3,h4⟩=> ?_);rcases hI.ap q x.2 hqd hbox.1 hqx.2 hbox.2 hqx.1 with h|h<;>omega
   refine ih (L.setIfInBounds x.1 true) f (updN lo x.1 (lo x.2)) (updN hi x.1 (hi x.2)) a' w' hsz' hcnt2 ⟨fun y hy hLy=> ?_,fun y hy hLy=> ?_⟩ ?_
   ·by_cases hyx:y.1=x.1
    ·have e2:y.2=x.2:=by
      rcases hsetT y.1 hLy with h|h
      ·by_cases h2:y.2=x.2
       ·exact h2
       ·exfalso;have hy':=hst y hy;have hx':=hst x hx;have h3:=hy'.1.1.2;have h4:=hx'.1.1.2;rw[hyx,h4]at h3;exact h2 (Option.some.inj h3).symm
      ·exact absurd hyx (hne _ h)
     rw[hyx,e2,ei.1,ei.2,(en x.2 hne2).1,(en x.2 hne2).2];exact⟨rfl,rfl⟩
    ·have hLy':L.getD y.1 false=true:=(hsetT y.1 hLy).resolve_left hyx;have hy2:y.2≠x.1:=fun e=>hns2 (slot_st hy).1 (e▸hin)
     rw[(en y.1 hyx).1,(en y.1 hyx).2,(en y.2 hy2).1,(en y.2 hy2).2];exact hbx.1 y hy hLy'
   ·have hy2:y.2≠x.1:=fun e=>hns2 (slot_st hy).1 (e▸hin)
    rw[(en y.2 hy2).1,(en y.2 hy2).2];exact hbx.2 y hy ((hsetT y.2 hLy).resolve_left hy2)
   ·refine ⟨ha'.trans hI.act,hbl,?_,?_,?_,?_,?_⟩
    ·intro j o' ho' hj e he' hb;rcases hsetT j hj with rfl|hj
     ·rw[ho]at ho';obtain rfl:=Option.some.inj ho';rw[hset];split
      ·rfl
      ·exact hd e he' hb
     ·rw[hset];split
      ·rfl
      ·exact hI.deps j o' ho' hj e he' hb
    ·intro j hj m hm;rcases hsetT j hj with hj'|hj
     ·rw[hj',hb2,List.mem_singleton]at hm;rw[hset,if_pos hm]
     ·rw[hset];split
      ·rfl
      ·exact hI.reach j hj m hm
    ·intro j hj;rw[hsz];rcases hsetT j hj with hj'|hj'
     ·rw[hj',ei.1,ei.2];exact hI.iv x.2 hbox.1
     ·rw[(en j (hne j hj')).1,(en j (hne j hj')).2];exact hI.iv j hj'
    ·intro j m hj hm hgj hgm hjm;have gj:=gone2 j hgj;have gm:=gone2 m hgm;rcases hsetT j hj with hj'|hj'
     ·rcases hsetT m hm with hm'|hm'
      ·exact absurd (hj'.trans hm'.symm) hjm
      ·rw[hj',ei.1,ei.2,(en m (hne m hm')).1,(en m (hne m hm')).2];exact hI.ap x.2 m hbox.1 hm' hbox.2 (goneM m hgm) (fun e=>gm e.symm)
     ·rcases hsetT m hm with hm'|hm'
      ·rw[hm',ei.1,ei.2,(en j (hne j hj')).1,(en j (hne j hj')).2];exact hI.ap j x.2 hj' hbox.1 (goneM j hgj) hbox.2 gj
      ·rw[(en j (hne j hj')).1,(en j (hne j hj')).2,(en m (hne m hm')).1,(en m (hne m hm')).2];exact hI.ap j m hj' hm' (goneM j hgj) (goneM m hgm) hjm
    ·intro j hj hgj w'' hla;have gj:=gone2 j hgj;rcases hsetT j hj with hj'|hj'
     ·rw[hj',ei.1,ei.2];refine hfact w'' hla.bel hla.size (fun b h1 h2=>hla.block b x.1 (by rw[hj',hb2];exact List.mem_singleton.2 rfl) (by rw[ei.1];exact h1) (by rw[ei.2];exact h2))
     ·rw[(en j (hne j hj')).1,(en j (hne j hj')).2];refine hI.fact j hj' (goneM j hgj) w'' ⟨hla.bel,by rw[←hsz];exact hla.size,fun b q hq h1 h2=> ?_⟩;have hqd:=hI.reach j hj' q hq;rw[hla.block b q hq (by rw[(en q (hne q hqd)).1];exact h1) (by rw[(en q (hne q hqd)).2];exact h2)];exact far j hj' (goneM j hgj) gj q hq b h1 h2
def StoresT(P:Program)(ops:Array Oper)(Q:Exit->Act->World->Prop)(w:World)(dp:List (List Nat))(R:Nat->Value->Nat->Nat->World->Prop)(sv:Nat->Nat)(A:(Nat->Value)->Act)(l:List (Nat×Nat)):Prop:=
 ∀x∈l,∀o,ops[x.1]?=some o-> ∀(f:Nat->Value) (lo hi:Nat->Nat) (w':World),Below w.heap.size w w'->w.heap.size<=lo x.2->(∀j∈x.2::dp.getD x.1 [],R j (f j) (lo j) (hi j) w')->
  ∀K:Act->World->Prop,(∀w'',Below w.heap.size w w''->w''.heap.size=w'.heap.size->(∀b,b<w'.heap.size-> ¬(lo x.2<=b/\b<hi x.2)->w''.heap[b]?=w'.heap[b]?)->(∀W,Below w.heap.size w W->w''.heap.size<=W.heap.size->(∀b,lo x.2<=b->b<hi x.2->W.heap[b]?=w''.heap[b]?)->R x.1 (f (sv x.1)) (lo x.2) (hi x.2) W)->K (A f) w'')->
   if Region.wanted o (yielded ops (A f).tmps)=true then Oper.wp P o (A f) w' K Q else K ((A f).put o.dst undef) w'
theorem StoresT.nil {w:World} {dp:List (List Nat)} {R:Nat->Value->Nat->Nat->World->Prop} {sv:Nat->Nat} {A:(Nat->Value)->Act}:StoresT P ops Q w dp R sv A []:=fun x hx=>by cases hx
theorem StoresT.cons {w:World} {dp:List (List Nat)} {R:Nat->Value->Nat->Nat->World->Prop} {sv:Nat->Nat} {A:(Nat->Value)->Act} {s k:Nat} {l:List (Nat×Nat)} {o:Oper} (ho:ops[s]?=some o)
 (h: ∀(f:Nat->Value) (lo hi:Nat->Nat) (w':World),Below w.heap.size w w'->w.heap.size<=lo k->(∀j∈k::dp.getD s [],R j (f j) (lo j) (hi j) w')->
 ∀K:Act->World->Prop,(∀w'',Below w.heap.size w w''->w''.heap.size=w'.heap.size->(∀b,b<w'.heap.size-> ¬(lo k<=b/\b<hi k)->w''.heap[b]?=w'.heap[b]?)->(∀W,Below w.heap.size w W->w''.heap.size<=W.heap.size->(∀b,lo k<=b->b<hi k->W.heap[b]?=w''.heap[b]?)->R s (f (sv s)) (lo k) (hi k) W)->K (A f) w'')->
  if Region.wanted o (yielded ops (A f).tmps)=true then Oper.wp P o (A f) w' K Q else K ((A f).put o.dst undef) w')
 (hs:StoresT P ops Q w dp R sv A l):StoresT P ops Q w dp R sv A ((s,k)::l):=fun x hx=>by
 rcases List.mem_cons.1 hx with rfl|hx
 ·intro o' ho';obtain rfl:=Option.some.inj (ho.symm.trans ho');exact h
 ·exact hs x hx
def StoresS(P:Program)(ops:Array Oper)(Q:Exit->Act->World->Prop)(w:World)(dp:List (List Nat))(R:Nat->Value->Nat->Nat->World->Prop)(A:(Nat->Value)->Act)(l:List (Nat×Nat)):Prop:=StoresT P ops Q w dp R id A l
theorem StoresS.nil {w:World} {dp:List (List Nat)} {R:Nat->Value->Nat->Nat->World->Prop} {A:(Nat->Value)->Act}:StoresS P ops Q w dp R A []:=StoresT.nil
theorem StoresS.cons {w:World} {dp:List (List Nat)} {R:Nat->Value->Nat->Nat->World->Prop} {A:(Nat->Value)->Act} {s k:Nat} {l:List (Nat×Nat)} {o:Oper} (ho:ops[s]?=some o)
 (h: ∀(f:Nat->Value) (lo hi:Nat->Nat) (w':World),Below w.heap.size w w'->w.heap.size<=lo k->(∀j∈k::dp.getD s [],R j (f j) (lo j) (hi j) w')->
 ∀K:Act->World->Prop,(∀w'',Below w.heap.size w w''->w''.heap.size=w'.heap.size->(∀b,b<w'.heap.size-> ¬(lo k<=b/\b<hi k)->w''.heap[b]?=w'.heap[b]?)->(∀W,Below w.heap.size w W->w''.heap.size<=W.heap.size->(∀b,lo k<=b->b<hi k->W.heap[b]?=w''.heap[b]?)->R s (f s) (lo k) (hi k) W)->K (A f) w'')->
  if Region.wanted o (yielded ops (A f).tmps)=true then Oper.wp P o (A f) w' K Q else K ((A f).put o.dst undef) w')
 (hs:StoresS P ops Q w dp R A l):StoresS P ops Q w dp R A ((s,k)::l):=StoresT.cons ho h hs
def flowsSB(ops:Array Oper)(sl:List (Nat×Tmp))(rs:List (List Nat))(st:List (Nat×Nat))(dp:List (List Nat)):Bool:=
 flowSB ops (sl.map (·.1)) rs st dp&&sl.all (fun x=>dOf ops x.1==some x.2)
def svF(sv:List (Nat×Nat))(i:Nat):Nat:=((sv.find? (fun x=>x.1==i)).map (·.2)).getD i
def svB(sl:List (Nat×Tmp))(st:List (Nat×Nat))(dp:List (List Nat))(sv:List (Nat×Nat)):Bool:=sl.all (fun x=>svF sv x.1==x.1)&&st.all (fun x=>svF sv x.1==x.1||(x.2::dp.getD x.1 []).contains (svF sv x.1))
theorem svB_ok {sl:List (Nat×Tmp)} {st:List (Nat×Nat)} {dp:List (List Nat)} {sv:List (Nat×Nat)} (h:svB sl st dp sv=true):(∀i∈sl.map (·.1),svF sv i=i)/\ ∀x∈st,svF sv x.1=x.1\/svF sv x.1∈x.2::dp.getD x.1 []:=by
 simp only[svB,Bool.and_eq_true,List.all_eq_true,Bool.or_eq_true,beq_iff_eq,List.contains_iff_mem]at h;refine⟨fun i hi=> ?_,h.2⟩;obtain⟨x,hx,rfl⟩:=List.mem_map.1 hi;exact h.1 x hx
theorem go_flowT {id:Nat} {a0:Act} {w:World} (hm:P.follows .mixedOrders=true)(sl:List (Nat×Tmp))(rs:List (List Nat))(st:List (Nat×Nat))(dp:List (List Nat))(R:Nat->Value->Nat->Nat->World->Prop)(sv:List (Nat×Nat))(RB:Nat->Value->Nat->Nat->Prop)
 (A:(Nat->Value)->Act) (hA: ∀f,putS sl f a0=A f) (hRB: ∀x∈st,∀v lo hi W,R x.2 v lo hi W->RB x.2 v lo hi) (hc:flowsSB ops sl rs st dp=true) (hv:svB sl st dp sv=true)
 (hs:Steps P ops Q w rs R A (sl.map (·.1)))
 (ht:StoresT P ops Q w dp R (svF sv) A st)
 (he: ∀(f:Nat->Value) (lo hi:Nat->Nat) (w':World),Below w.heap.size w w'->(∀i,(i∈sl.map (·.1)/\i∉st.map (·.2))\/i∈st.map (·.1)->R i (f (svF sv i)) (lo i) (hi i) w')->(∀x∈st,lo x.1=lo x.2/\hi x.1=hi x.2/\w.heap.size<=lo x.2/\hi x.2<=w'.heap.size/\RB x.2 (f x.2) (lo x.2) (hi x.2))->Q .normal (A f) w'):
 (Code.region id ops true).wp P Q a0 w:=by
 simp only[flowsSB,Bool.and_eq_true]at hc;obtain⟨hc,hsl⟩:=hc;have hAA: ∀f,putA ops (sl.map (·.1)) f a0=A f:=fun f=>(putS_is sl f a0 hsl).trans (hA f)
 have key: ∀w':World,Below w.heap.size w.drew w'->Below w.heap.size w w':=fun w' h=>⟨h.os,h.tape,h.output,h.size,h.block⟩
 have yek: ∀w':World,Below w.heap.size w w'->Below w.heap.size w.drew w':=fun w' h=>⟨h.os,h.tape,h.output,h.size,h.block⟩
 have hslots:zs6 ops (sl.map (·.1))=true:=by
  have h:=hc;unfold flowSB at h;simp only[Bool.and_eq_true]at h;exact h.1.1.1.1
 have hdn: ∀x∈st,∀o,ops[x.1]?=some o->o.dst=none:=fun x hx o ho=>by
  have h:=hc;unfold flowSB at h;simp only[Bool.and_eq_true,List.all_eq_true]at h;have h2:=(h.2 x hx).1.1.1.2;unfold dOf at h2;rw[ho]at h2;simpa using h2
 refine wp_region_any hm (flowS_any (w0:=w.drew) (a0:=a0) R (svF sv) (svB_ok hv) RB hRB hc (fun i hi o ho f lo hi' w' hb h=> ?_) (fun x hx o ho f lo hi' w' hb hlo h=> ?_) (fun f lo hi' w' h1 h2 h3=> ?_) ops.size _ (fun i=>a0.tmps.getD ((dOf ops i).getD 0) undef) (fun _=>0) (fun _=>0) a0 w.drew (by simp) (by simp) ?_ ?_)
 ·rw[hAA f];refine wpOp_step ho fun K hK=> ?_
  refine hs i hi o ho f lo hi' w' (key w' hb) h K fun v w'' h1 h2=>hK _ _ ⟨v,?_,h1,fun W a b c d=>h2 W (key W a) b c d⟩
  unfold dOf;rw[ho];rfl
 ·rw[hAA f];refine wpOp_step ho fun K hK=> ?_
  exact ht x hx o ho f lo hi' w' (key w' hb) hlo h K fun w'' h1 h2 h3 h4=>hK _ _ ⟨rfl,yek w'' h1,h2,h3,fun W a b c=>h4 W (key W a) b c⟩
 ·rw[hAA f];exact he f lo hi' w' (key w' h1) h2 h3
 ·refine ⟨fun x hx hL=> ?_,fun x hx hL=> ?_⟩
  ·simp only[Array.getD_eq_getD_getElem?,Array.getElem?_replicate]at hL;split at hL<;>simp at hL
  ·simp only[Array.getD_eq_getD_getElem?,Array.getElem?_replicate]at hL;split at hL<;>simp at hL
 ·have e: ∀i,(Array.replicate ops.size false).getD i false=true->False:=fun i h=>by
   simp only[Array.getD_eq_getD_getElem?,Array.getElem?_replicate]at h;split at h<;>simp at h
  exact⟨(zG6 _ a0 hslots).symm,Below.refl _ _,fun i o _ h=>(e i h).elim,fun i h=>(e i h).elim,fun i h=>(e i h).elim,fun i j h=>(e i h).elim,fun i h=>(e i h).elim⟩
theorem go_flowS {id:Nat} {a0:Act} {w:World} (hm:P.follows .mixedOrders=true)(sl:List (Nat×Tmp))(rs:List (List Nat))(st:List (Nat×Nat))(dp:List (List Nat))(R:Nat->Value->Nat->Nat->World->Prop)(RB:Nat->Value->Nat->Nat->Prop)
 (A:(Nat->Value)->Act) (hA: ∀f,putS sl f a0=A f) (hRB: ∀x∈st,∀v lo hi W,R x.2 v lo hi W->RB x.2 v lo hi) (hc:flowsSB ops sl rs st dp=true)
 (hs:Steps P ops Q w rs R A (sl.map (·.1)))
 (ht:StoresS P ops Q w dp R A st)
 (he: ∀(f:Nat->Value) (lo hi:Nat->Nat) (w':World),Below w.heap.size w w'->(∀i,(i∈sl.map (·.1)/\i∉st.map (·.2))\/i∈st.map (·.1)->R i (f i) (lo i) (hi i) w')->(∀x∈st,lo x.1=lo x.2/\hi x.1=hi x.2/\w.heap.size<=lo x.2/\hi x.2<=w'.heap.size/\RB x.2 (f x.2) (lo x.2) (hi x.2))->Q .normal (A f) w'):
 (Code.region id ops true).wp P Q a0 w:=go_flowT hm sl rs st dp R [] RB A hA hRB hc (by simp[svB,svF]) hs ht he
end
end Go.Proofs.YtkafjblfjdpdaaaGreatDoor
