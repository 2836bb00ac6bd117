/-
  MEMORY: a set of blocks that a call may turn; what else lies there stays.
  MEMORY of json's reader: its tokens, its nodes, their kids and pieces.
  WALKS: json's reader: fail, next, take, step, leaf.
  WALKS: json's reader: step, leaf; what a value, a kid, a list leave.
  WALKS: json's reader: list: kids, commas between them, their pieces.
  MEMORY: the keys that were had, as a map.
  WALKS: json's reader: what reads an item, a member; array, object.
  WALKS: json's reader: what reads a member; object.
  WALKS: json's reader: object; what is behind a value's first token.
  WALKS: json's reader: value.
  WALKS: json's reader: value, whole.
  WALKS: json.Parse.
  WALKS: json.Parse, whole.
  WALKS: small() of layer 5.
  WALKS: json.Path, json.Slice, and the document's.
  WALKS: the document's Slice; the law JsonPaths.
-/
import Derived.Test.YtkafjblfjdpdaaaGreatDoorJsM
import Derived.Test.YtkafjblfjdpdaaaGreatDoorLexv
set_option maxHeartbeats 4000000
set_option maxRecDepth 1000000
namespace Go.Proofs.YtkafjblfjdpdaaaGreatDoor
open Go.RowKit Go.OpenShut
structure Fr(o o':Nat->Prop)(W W':World):Prop where
 os:W'.os=W.os
 tape:W'.tape=W.tape
 output:W'.output=W.output
 size:W.heap.size<=W'.heap.size
 block: ∀k,k<W.heap.size-> ¬o k->W'.heap[k]?=W.heap[k]?
 own: ∀k,o' k->o k\/W.heap.size<=k
section
variable {o o' o'':Nat->Prop} {W W' W'':World}
theorem Fr.refl(o:Nat->Prop)(W:World):Fr o o W W:=⟨rfl,rfl,rfl,Nat.le_refl _,fun _ _ _=>rfl,fun _ h=> .inl h⟩
theorem Fr.trans(h:Fr o o' W W')(k:Fr o' o'' W' W''):Fr o o'' W W'':=
 ⟨k.os.trans h.os,k.tape.trans h.tape,k.output.trans h.output,Nat.le_trans h.size k.size,fun i hi hn=>(k.block i (Nat.lt_of_lt_of_le hi h.size) fun ho=>(h.own i ho).elim hn (fun h'=>by omega)).trans (h.block i hi hn),
  fun i hi=>(k.own i hi).elim (fun h'=>h.own i h') fun h'=> .inr (Nat.le_trans h.size h')⟩
theorem Fr.of_below(o:Nat->Prop)(h:Below W.heap.size W W'):Fr o o W W':=⟨h.os,h.tape,h.output,h.size,fun k hk _=>h.block k hk,fun _ h=> .inl h⟩
theorem Fr.below(h:Fr o o' W W') {B:Nat} (hB: ∀k,o k->B<=k)(hs:B<=W.heap.size):Below B W W':=⟨h.os,h.tape,h.output,h.size,fun k hk=>h.block k (by omega) fun ho=>by have:=hB k ho;omega⟩
theorem Fr.drew(h:Fr o o' W W'):Fr o o' W W'.drew:=⟨h.os,h.tape,h.output,h.size,h.block,h.own⟩
theorem Fr.set(h:Fr o o' W W') {p:Addr} (hp:o' p.block)(u:Value):Fr o o' W (W'.setCell p u):=
 h.trans ⟨rfl,rfl,rfl,by simp[World.setCell],fun k _ hn=>Below.heap_setCell _ _ _ _ (fun e=>hn (by rw[e];exact hp)),fun _ h=> .inl h⟩
theorem Fr.grown(h:Fr o o' W W') {row:Option Nat} (hg:W'.grownBy W'' row)(hr: ∀k,row=some k->o' k)(hn: ∀k,o'' k->o' k\/W'.heap.size<=k):Fr o o'' W W'':=
 h.trans ⟨hg.os,hg.tape,hg.output,hg.size,fun k hk hk'=>hg.block k hk fun e=>hk' (hr k e.symm),hn⟩
end
structure Lo(o:Nat->Prop)(W:World)(b:Nat)(t:TypeId)(cs:Array Value):Prop where
 at_:Whole W b t cs
 no: ¬o b
section
variable {o o':Nat->Prop} {W W':World} {b:Nat} {t:TypeId} {cs:Array Value}
theorem Lo.step(h:Lo o W b t cs)(f:Fr o o' W W'):Lo o' W' b t cs:=⟨(f.block b h.at_.lt h.no).trans h.at_,fun ho=>(f.own b ho).elim h.no fun h'=>by have:=h.at_.lt;omega⟩
theorem Lo.new(ho: ∀k,o k->k<W.heap.size)(t:TypeId)(cs:Array Value):Lo o (W.alloc (.cells cs t)) W.heap.size t cs:=⟨Whole.made W t cs,fun h=>by have:=ho _ h;omega⟩
theorem Lo.below(h:Lo o W b t cs)(f:Below W.heap.size W W'):Lo o W' b t cs:=⟨h.at_.grow f,h.no⟩
theorem Lo.cell(h:Lo o W b t cs)(i:Nat):W.cell? ⟨b,i,none⟩=cs[i]?:=h.at_.at_ i
end
theorem row_putc {w:World} {B e size n:Nat} {g cap:Nat} {xs:List Value} (h:w.ownsRow B e size (.slice (some ⟨g,0,none⟩) n cap) n xs)(i:Nat)(u:Value):
 (w.setCell ⟨g,i,none⟩ u).ownsRow B e size (.slice (some ⟨g,0,none⟩) n cap) n (xs.set i u)\/n*size<=i:=by
 by_cases hi:n*size<=i
 ·exact .inr hi
 ·refine .inl ?_;rcases h.2 with ⟨h1,_⟩|⟨g',cap',cur,h1,hb,hg,r1,r2,r3,r4⟩
  ·cases h1
  ·cases h1;refine⟨by rw[List.length_set];exact h.1,.inr ⟨g,cap,cur.setIfInBounds i u,rfl,hb,?_,r1,r2,by rw[Array.size_setIfInBounds];exact r3,?_⟩⟩
   ·have:=Whole.put (show Whole w g e cur from hg) i u;exact this
   ·rw[Array.toList_setIfInBounds,List.take_set,r4]
theorem zi6(w:World)(p:Addr)(u:Value):w.grownBy (w.setCell p u) (some p.block):=⟨rfl,rfl,rfl,by simp[World.setCell],fun k _ hne=>Below.heap_setCell _ _ _ _ (fun e=>hne (by rw[e]))⟩
theorem zP {w:World} {B e n size:Nat} {v:Value} {xs:List Value} (h:w.ownsRow B e size v n xs): ∀g,v.ownBlock=some g-> ∃cur,w.heap[g]?=some (.cells cur e (0,0)):=fun g hg=>by
 rcases h.2 with ⟨rfl,_⟩|⟨g',cap',cur,rfl,hb,hg',_⟩
 ·cases hg
 ·have:g'=g:=by simpa [Value.ownBlock] using hg
  subst this;exact⟨cur,hg'⟩
theorem zb1 {w:World} {B e n size B' e' n' size':Nat} {v v':Value} {xs xs':List Value} (h:w.ownsRow B e size v n xs)(h':w.ownsRow B' e' size' v' n' xs')(hne:e≠e'): ∀q,v.ownBlock=some q->v'.ownBlock≠some q:=fun q hq hq'=>by
 obtain⟨c,hc⟩:=zP h q hq;obtain⟨c',hc'⟩:=zP h' q hq';rw[hc]at hc';cases hc';exact hne rfl
theorem zc1 {w:World} {B e n size g t:Nat} {v:Value} {xs:List Value} {cs:Array Value} (h:w.ownsRow B e size v n xs)(hw:Whole w g t cs)(hne:e≠t):v.ownBlock≠some g:=fun hq=>by
 obtain⟨c,hc⟩:=zP h g hq;rw[show w.heap[g]?=_ from hw]at hc;cases hc;exact hne rfl
theorem za5 {w w':World} {B e n size:Nat} {v:Value} {xs:List Value} {row:Option Nat} (h:w.ownsRow B e size v n xs)(hg:w.grownBy w' row)(hne: ∀b,row=some b->v.ownBlock≠some b):w'.ownsRow B e size v n xs:=h.kept hg (by
 cases hv:v.ownBlock with
 |none=>exact .inl rfl
 |some q=>exact .inr fun e=>hne q e.symm hv)
theorem ze8 {w w':World} {g t:Nat} {cs:Array Value} {row:Option Nat} (h:Whole w g t cs)(hg:w.grownBy w' row)(hne: ∀b,row=some b->b≠g):Whole w' g t cs:=(hg.block g h.lt fun e=>hne g e.symm rfl).trans h
def TokIn(w:World)(o:Option Addr)(l:List Tok):Prop:= ∀i (h:i<l.length),∃b f,o=some ⟨b,f,none⟩/\w.cell? ⟨b,f+i*3,none⟩=some (.int .i64 (l[i].1:Int))/\w.cell? ⟨b,f+i*3+1,none⟩=some (.int .i64 (l[i].2.1:Int))/\w.cell? ⟨b,f+i*3+2,none⟩=some (.int .i64 (l[i].2.2:Int))
theorem TokIn.tail {w:World} {b f:Nat} {t:Tok} {l:List Tok} (h:TokIn w (some ⟨b,f,none⟩) (t::l)):TokIn w (some ⟨b,f+3,none⟩) l:=fun i hi=>by
 obtain⟨b',f',h1,h2,h3,h4⟩:=h (i+1) (by simp;omega);cases h1;refine⟨b,f+3,rfl,?_⟩;rw[show f+3+i*3=f+(i+1)*3 by omega];exact⟨h2,h3,h4⟩
structure NV where
 n:JN
 k:Value
 p:Value
def ze(x:NV):List Value:=[.int .i64 (x.n.kd:Int),.int .i64 (x.n.a:Int),.int .i64 (x.n.b:Int),.int .i64 (x.n.ka:Int),.int .i64 (x.n.kb:Int),x.k,x.p]
def zd4(l:List NV):List Value:=l.flatMap ze
def kidC(l:List Nat):List Value:=l.map fun j:Nat=>Value.int .i64 (j:Int)
def pcC(l:List (Nat×Nat)):List Value:=l.flatMap fun p=> [Value.int .i64 (p.1:Int),.int .i64 (p.2:Int)]
theorem zt0(l:List NV): ∀(i j:Nat) (h:i<l.length),j<7->(zd4 l)[i*7+j]?=(ze l[i])[j]?:=by
 induction l with
 |nil=>intro i j h;exact absurd h (Nat.not_lt_zero _)
 |cons x l ih=>
  intro i j h hj;unfold zd4 at ih ⊢;rw[List.flatMap_cons];cases i with
  |zero=>rw[List.getElem?_append_left (by simp[ze];omega)];simp
  |succ i=>
   rw[List.getElem?_append_right (by simp[ze];omega)];have:=ih i j (by simpa using h) hj;rw[show (i+1)*7+j-(ze x).length=i*7+j by simp[ze];omega];exact this
theorem zy4(l:List NV): ∀(i j:Nat) (u:Value) (x:NV) (h:i<l.length),j<7->ze x=(ze l[i]).set j u->zd4 (l.set i x)=(zd4 l).set (i*7+j) u:=by
 induction l with
 |nil=>intro i j u x h;exact absurd h (Nat.not_lt_zero _)
 |cons y l ih=>
  intro i j u x h hj hx;unfold zd4 at ih ⊢;cases i with
  |zero=>
   rw[List.set_cons_zero,List.flatMap_cons,List.flatMap_cons,List.set_append_left _ _ (by simp[ze];omega),hx];simp
  |succ i=>
   rw[List.set_cons_succ,List.flatMap_cons,List.flatMap_cons,List.set_append_right _ _ (by simp[ze];omega),ih i j u x (by simpa using h) hj hx];rw[show (i+1)*7+j-(ze y).length=i*7+j by simp[ze];omega]
structure RS where
 ts:List Tok
 o:Option Addr
 cap:Nat
 nv:List NV
 vN:Value
 wh:Int
 er:Int
def RS.ns(r:RS):List JN:=r.nv.map NV.n
def RS.own(g:Nat)(r:RS)(k:Nat):Prop:=k=g\/r.vN.ownBlock=some k\/ ∃i,∃hi:i<r.nv.length,r.nv[i].k.ownBlock=some k\/r.nv[i].p.ownBlock=some k
structure Rd(w0:World)(g:Nat)(s:ByteArray)(r:RS)(W:World):Prop where
 blk:Whole W g 128 #[.string s,.slice r.o r.ts.length r.cap,r.vN,.int .i64 r.wh,.int .i64 r.er]
 tk:TokIn w0 r.o r.ts/\ ∀t∈r.ts,t.2.1<=t.2.2/\t.2.2<=s.size
 tl:r.ts.length<=r.cap
 tm:r.cap<=maxLen
 nd:W.ownsRow w0.heap.size 149 7 r.vN r.nv.length (zd4 r.nv)
 kr: ∀i (hi:i<r.nv.length),W.ownsRow w0.heap.size 3 1 r.nv[i].k r.nv[i].n.kids.length (kidC r.nv[i].n.kids)
 pr: ∀i (hi:i<r.nv.length),W.ownsRow w0.heap.size 44 2 r.nv[i].p r.nv[i].n.pcs.length (pcC r.nv[i].n.pcs)
 ak: ∀i j (hi:i<r.nv.length) (hj:j<r.nv.length),i≠j-> ∀q,r.nv[i].k.ownBlock=some q->r.nv[j].k.ownBlock≠some q
 ap: ∀i j (hi:i<r.nv.length) (hj:j<r.nv.length),i≠j-> ∀q,r.nv[i].p.ownBlock=some q->r.nv[j].p.ownBlock≠some q
 bl:Below w0.heap.size w0 W
 gl:w0.heap.size<=g
 n4:r.nv.length<=4096
 kl: ∀i (hi:i<r.nv.length),r.nv[i].n.kids.length<=r.nv.length/\r.nv[i].n.pcs.length<=r.nv.length
section
variable {w0 W W':World} {g:Nat} {s:ByteArray} {r:RS}
theorem Rd.own_lt(h:Rd w0 g s r W): ∀k,r.own g k->w0.heap.size<=k/\k<W.heap.size:=fun k hk=>by
 rcases hk with rfl|hk|⟨i,hi,hk|hk⟩
 ·exact ⟨h.gl,h.blk.lt⟩
 ·exact h.nd.lt k hk
 ·exact (h.kr i hi).lt k hk
 ·exact (h.pr i hi).lt k hk
theorem Rd.grow(h:Rd w0 g s r W)(hb:Below W.heap.size W W'):Rd w0 g s r W':=by
 have hg:W.grownBy W' none:=⟨hb.os,hb.tape,hb.output,hb.size,fun j hj _=>hb.block j hj⟩;have hn: ∀(v:Value) (b:Nat),(none:Option Nat)=some b->v.ownBlock≠some b:=fun v b e=>by cases e
 exact⟨h.blk.grow hb,h.tk,h.tl,h.tm,za5 h.nd hg (hn _),fun i hi=>za5 (h.kr i hi) hg (hn _),fun i hi=>za5 (h.pr i hi) hg (hn _),h.ak,h.ap,h.bl.trans (hb.mono h.bl.size),h.gl,h.n4,h.kl⟩
theorem Rd.ng(h:Rd w0 g s r W):r.vN.ownBlock≠some g:=zc1 h.nd h.blk (by decide)
theorem Rd.kg(h:Rd w0 g s r W) {i:Nat} (hi:i<r.nv.length):r.nv[i].k.ownBlock≠some g:=zc1 (h.kr i hi) h.blk (by decide)
theorem Rd.pg(h:Rd w0 g s r W) {i:Nat} (hi:i<r.nv.length):r.nv[i].p.ownBlock≠some g:=zc1 (h.pr i hi) h.blk (by decide)
theorem Rd.put(h:Rd w0 g s r W)(i:Nat)(u:Value):(W.setCell ⟨g,i,none⟩ u).ownsRow w0.heap.size 149 7 r.vN r.nv.length (zd4 r.nv)/\
 (∀j (hj:j<r.nv.length),(W.setCell ⟨g,i,none⟩ u).ownsRow w0.heap.size 3 1 r.nv[j].k r.nv[j].n.kids.length (kidC r.nv[j].n.kids))/\(∀j (hj:j<r.nv.length),(W.setCell ⟨g,i,none⟩ u).ownsRow w0.heap.size 44 2 r.nv[j].p r.nv[j].n.pcs.length (pcC r.nv[j].n.pcs))/\Below w0.heap.size w0 (W.setCell ⟨g,i,none⟩ u):=by
 have hg:=zi6 W ⟨g,i,none⟩ u;have hne: ∀(v:Value),v.ownBlock≠some g-> ∀b,some (⟨g,i,none⟩:Addr).block=some b->v.ownBlock≠some b:=fun v hv b e=>by cases e;exact hv
 exact⟨za5 h.nd hg (hne _ h.ng),fun j hj=>za5 (h.kr j hj) hg (hne _ (h.kg hj)),fun j hj=>za5 (h.pr j hj) hg (hne _ (h.pg hj)),h.bl.setCell h.gl u⟩
theorem Fr.put(r:RS)(g:Nat)(W:World)(i:Nat)(u:Value):Fr (r.own g) (r.own g) W (W.setCell ⟨g,i,none⟩ u):=(Fr.refl _ _).set (.inl rfl) u
theorem Rd.next(h:Rd w0 g s r W) {l:List Tok} {o':Option Addr} {cap':Nat} (hl:l.length<=cap')(hm:cap'<=maxLen)(ho:TokIn w0 o' l/\ ∀t∈l,t.2.1<=t.2.2/\t.2.2<=s.size):Rd w0 g s {r with ts:=l,o:=o',cap:=cap'} (W.setCell ⟨g,1,none⟩ (.slice o' l.length cap')):=by
 obtain⟨h1,h2,h3,h4⟩:=h.put 1 (.slice o' l.length cap');exact⟨h.blk.put 1 _,ho,hl,hm,h1,h2,h3,h.ak,h.ap,h4,h.gl,h.n4,h.kl⟩
theorem Rd.fail(h:Rd w0 g s r W)(wh er:Int):Rd w0 g s {r with wh:=wh,er:=er} ((W.setCell ⟨g,4,none⟩ (.int .i64 er)).setCell ⟨g,3,none⟩ (.int .i64 wh)):=by
 obtain⟨h1,h2,h3,h4⟩:=h.put 4 (.int .i64 er);have hr1:Rd w0 g s {r with er:=er} (W.setCell ⟨g,4,none⟩ (.int .i64 er)):=⟨h.blk.put 4 _,h.tk,h.tl,h.tm,h1,h2,h3,h.ak,h.ap,h4,h.gl,h.n4,h.kl⟩;obtain⟨k1,k2,k3,k4⟩:=hr1.put 3 (.int .i64 wh);exact⟨hr1.blk.put 3 _,h.tk,h.tl,h.tm,k1,k2,k3,h.ak,h.ap,k4,h.gl,h.n4,h.kl⟩
theorem Fr.fail(r:RS)(g:Nat)(W:World)(wh er:Int):Fr (r.own g) (r.own g) W ((W.setCell ⟨g,4,none⟩ (.int .i64 er)).setCell ⟨g,3,none⟩ (.int .i64 wh)):=((Fr.refl _ _).set (.inl rfl) _).set (.inl rfl) _
def newN(n:JN):NV:=⟨n,.slice none 0 0,.slice none 0 0⟩
def RS.app(r:RS)(n:JN)(v':Value):RS:= {r with nv:=r.nv++[newN n],vN:=v'}
theorem Rd.app(h:Rd w0 g s r W) {n:JN} {v':Value} (hk:n.kids=[])(hp:n.pcs=[])(h4:r.nv.length<4096)(hown:W'.ownsRow w0.heap.size 149 7 v' (r.nv.length+1) (zd4 (r.nv++[newN n])))(hg:W.grownBy W' r.vN.ownBlock)(hat:v'.ownBlock=r.vN.ownBlock\/v'.ownBlock=some W.heap.size):
 Rd w0 g s (r.app n v') (W'.setCell ⟨g,2,none⟩ v')/\Fr (r.own g) ((r.app n v').own g) W (W'.setCell ⟨g,2,none⟩ v'):=by
 have hblk:Whole W' g 128 #[.string s,.slice r.o r.ts.length r.cap,r.vN,.int .i64 r.wh,.int .i64 r.er]:=ze8 h.blk hg fun b e hb=>h.ng (by rw[e,hb])
 have hg2:=zi6 W' ⟨g,2,none⟩ v';have hkk: ∀i (hi:i<r.nv.length),(W'.setCell ⟨g,2,none⟩ v').ownsRow w0.heap.size 3 1 r.nv[i].k r.nv[i].n.kids.length (kidC r.nv[i].n.kids):=fun i hi=>za5 (za5 (h.kr i hi) hg fun b e=>zb1 h.nd (h.kr i hi) (by decide) b e) hg2 fun b e=>by cases e;exact h.kg hi
 have hpp: ∀i (hi:i<r.nv.length),(W'.setCell ⟨g,2,none⟩ v').ownsRow w0.heap.size 44 2 r.nv[i].p r.nv[i].n.pcs.length (pcC r.nv[i].n.pcs):=fun i hi=>za5 (za5 (h.pr i hi) hg fun b e=>zb1 h.nd (h.pr i hi) (by decide) b e) hg2 fun b e=>by cases e;exact h.pg hi
 have hv'g:v'.ownBlock≠some g:=zc1 hown hblk (by decide);have hbl:Below w0.heap.size w0 (W'.setCell ⟨g,2,none⟩ v'):=(h.bl.grown hg h.bl.size fun k e=>(h.nd.lt k e).1).setCell h.gl v';have hcs: ∀i (hi:i<(r.nv++[newN n]).length),(∃hi':i<r.nv.length,(r.nv++[newN n])[i]=r.nv[i])\/(r.nv++[newN n])[i]=newN n:=fun i hi=>by
  by_cases hlt:i<r.nv.length
  ·exact .inl ⟨hlt,List.getElem_append_left hlt⟩
  ·refine .inr ?_;rw[List.getElem_append_right (by omega)];simp
 have hnew: ∀q,¬((newN n).k.ownBlock=some q\/(newN n).p.ownBlock=some q):=fun q hq=>by rcases hq with hq|hq<;>cases hq
 refine⟨⟨hblk.put 2 _,h.tk,h.tl,h.tm,?_,?_,?_,?_,?_,hbl,h.gl,?_,?_⟩,?_⟩
 ·have e:(r.app n v').nv.length=r.nv.length+1:=by unfold RS.app;simp
  rw[e];exact za5 hown hg2 fun b e=>by cases e;exact hv'g
 ·intro i hi;rcases hcs i hi with ⟨hi',e⟩|e
  ·rw[show (r.app n v').nv[i]=r.nv[i] from e];exact hkk i hi'
  ·rw[show (r.app n v').nv[i]=newN n from e];simp only[newN,hk];exact World.ownsRow_nil _ _ _ _
 ·intro i hi;rcases hcs i hi with ⟨hi',e⟩|e
  ·rw[show (r.app n v').nv[i]=r.nv[i] from e];exact hpp i hi'
  ·rw[show (r.app n v').nv[i]=newN n from e];simp only[newN,hp];exact World.ownsRow_nil _ _ _ _
 ·intro i j hi hj hne q hq hq';simp only[RS.app]at hi hj hq hq';rcases hcs i hi with ⟨hi',e⟩|e
  ·rcases hcs j hj with ⟨hj',e2⟩|e2
   ·rw[e]at hq;rw[e2]at hq';exact h.ak i j hi' hj' hne q hq hq'
   ·rw[e2]at hq';exact hnew q (.inl hq')
  ·rw[e]at hq;exact hnew q (.inl hq)
 ·intro i j hi hj hne q hq hq';simp only[RS.app]at hi hj hq hq';rcases hcs i hi with ⟨hi',e⟩|e
  ·rcases hcs j hj with ⟨hj',e2⟩|e2
   ·rw[e]at hq;rw[e2]at hq';exact h.ap i j hi' hj' hne q hq hq'
   ·rw[e2]at hq';exact hnew q (.inr hq')
  ·rw[e]at hq;exact hnew q (.inr hq)
 ·unfold RS.app;rw[List.length_append,List.length_singleton];exact h4
 ·intro i hi;have el:(r.app n v').nv.length=r.nv.length+1:=by unfold RS.app;simp
  rw[el];rcases hcs i hi with ⟨hi',e⟩|e
  ·rw[show (r.app n v').nv[i]=r.nv[i] from e];have:=h.kl i hi';omega
  ·rw[show (r.app n v').nv[i]=newN n from e];simp[newN,hk,hp]
 ·have hown': ∀k,(r.app n v').own g k->r.own g k\/W.heap.size<=k:=fun k hk=>by
   rcases hk with rfl|hk|⟨i,hi,hk⟩
   ·exact .inl (.inl rfl)
   ·rcases hat with e|e
    ·exact .inl (.inr (.inl (e.symm.trans hk)))
    ·have hk2:v'.ownBlock=some k:=hk;rw[e]at hk2;exact .inr (Nat.le_of_eq (Option.some.inj hk2))
   ·simp only[RS.app]at hi hk;rcases hcs i hi with ⟨hi',e⟩|e
    ·rw[e]at hk;exact .inl (.inr (.inr ⟨i,hi',hk⟩))
    ·rw[e]at hk;exact absurd hk (hnew k)
  exact((Fr.refl _ _).grown hg (fun k e=> .inr (.inl e)) hown').set (.inl rfl) v'
theorem Rd.node(h:Rd w0 g s r W) {k:Nat} (hk:k<r.nv.length): ∃gN cap,r.vN= .slice (some ⟨gN,0,none⟩) r.nv.length cap/\r.nv.length<=cap/\cap<=maxLen/\(∀o,W.frozen? ⟨gN,o,none⟩=false)/\ ∀j,j<7->W.cell? ⟨gN,k*7+j,none⟩=(ze r.nv[k])[j]?:=by
 rcases h.nd.2 with ⟨_,h0⟩|⟨gN,cap,cur,hv,hg,hh,hc,hm,_⟩
 ·omega
 ·refine ⟨gN,cap,hv,hc,hm,fun o=>frozen_of_row W gN o cur _ hh,fun j hj=> ?_⟩;have hcl:=h.nd.cells (g:=gN) (by rw[hv];rfl) (k*7+j);have ha:=zt0 r.nv k j hk hj;have e1:(⟨gN,0,none⟩:Addr).add (k*7+j)=⟨gN,k*7+j,none⟩:=by rw[Addr.add_lit,Nat.zero_add]
  rw[e1,ha]at hcl;cases hx:(ze r.nv[k])[j]? with
  |none=>
   have:=List.getElem?_eq_none_iff.1 hx;simp[ze]at this;omega
  |some u=>exact hcl u hx
def RS.upd(r:RS)(k:Nat)(x:NV):RS:= {r with nv:=r.nv.set k x}
theorem Rd.upd(h:Rd w0 g s r W) {k:Nat} (hk:k<r.nv.length) {x:NV} {j:Nat} {u:Value} {row:Option Nat} {gN cap:Nat} (hvN:r.vN= .slice (some ⟨gN,0,none⟩) r.nv.length cap)(hj:j<7)(hx:ze x=(ze r.nv[k]).set j u)(hg:W.grownBy W' row)
 (hrow:row=none\/(row=r.nv[k].k.ownBlock/\x.p=r.nv[k].p/\x.n.pcs=r.nv[k].n.pcs)\/(row=r.nv[k].p.ownBlock/\x.k=r.nv[k].k/\x.n.kids=r.nv[k].n.kids))
 (hkr:W'.ownsRow w0.heap.size 3 1 x.k x.n.kids.length (kidC x.n.kids)) (hpr:W'.ownsRow w0.heap.size 44 2 x.p x.n.pcs.length (pcC x.n.pcs))
 (hak:x.k.ownBlock=r.nv[k].k.ownBlock\/x.k.ownBlock=some W.heap.size) (hap:x.p.ownBlock=r.nv[k].p.ownBlock\/x.p.ownBlock=some W.heap.size) (hkl:x.n.kids.length<=r.nv.length/\x.n.pcs.length<=r.nv.length):
 Rd w0 g s (r.upd k x) (W'.setCell ⟨gN,k*7+j,none⟩ u)/\Fr (r.own g) ((r.upd k x).own g) W (W'.setCell ⟨gN,k*7+j,none⟩ u):=by
 have hNo:r.vN.ownBlock=some gN:=by rw[hvN];rfl
 have hg2:=zi6 W' ⟨gN,k*7+j,none⟩ u;have hrowo: ∀b,row=some b->r.own g b:=fun b e=>by
  rcases hrow with e2|⟨e2,_⟩|⟨e2,_⟩
  ·rw[e2]at e;cases e
  ·exact .inr (.inr ⟨k,hk,.inl (e2.symm.trans e)⟩)
  ·exact .inr (.inr ⟨k,hk,.inr (e2.symm.trans e)⟩)
 have hrg: ∀b,row=some b->b≠g:=fun b e hb=>by
  subst hb;rcases hrow with e2|⟨e2,_⟩|⟨e2,_⟩
  ·rw[e2]at e;cases e
  ·exact h.kg hk (e2.symm.trans e)
  ·exact h.pg hk (e2.symm.trans e)
 have hrn: ∀b,row=some b->r.vN.ownBlock≠some b:=fun b e=>by
  rcases hrow with e2|⟨e2,_⟩|⟨e2,_⟩
  ·rw[e2]at e;cases e
  ·exact fun e3=>zb1 (h.kr k hk) h.nd (by decide) b (e2.symm.trans e) e3
  ·exact fun e3=>zb1 (h.pr k hk) h.nd (by decide) b (e2.symm.trans e) e3
 have hnd':W'.ownsRow w0.heap.size 149 7 r.vN r.nv.length (zd4 r.nv):=za5 h.nd hg hrn;have hki: ∀i (hi:i<r.nv.length),i≠k->W'.ownsRow w0.heap.size 3 1 r.nv[i].k r.nv[i].n.kids.length (kidC r.nv[i].n.kids):=fun i hi hne=>za5 (h.kr i hi) hg fun b e=>by
  rcases hrow with e2|⟨e2,_⟩|⟨e2,_⟩
  ·rw[e2]at e;cases e
  ·exact h.ak k i hk hi (Ne.symm hne) b (e2.symm.trans e)
  ·exact zb1 (h.pr k hk) (h.kr i hi) (by decide) b (e2.symm.trans e)
 have hpi: ∀i (hi:i<r.nv.length),i≠k->W'.ownsRow w0.heap.size 44 2 r.nv[i].p r.nv[i].n.pcs.length (pcC r.nv[i].n.pcs):=fun i hi hne=>za5 (h.pr i hi) hg fun b e=>by
  rcases hrow with e2|⟨e2,_⟩|⟨e2,_⟩
  ·rw[e2]at e;cases e
  ·exact zb1 (h.kr k hk) (h.pr i hi) (by decide) b (e2.symm.trans e)
  ·exact h.ap k i hk hi (Ne.symm hne) b (e2.symm.trans e)
 have hs: ∀ {e size n:Nat} {v:Value} {xs:List Value},W'.ownsRow w0.heap.size e size v n xs->e≠149->(W'.setCell ⟨gN,k*7+j,none⟩ u).ownsRow w0.heap.size e size v n xs:=fun ho hne=>za5 ho hg2 fun b e=>by
  cases e;exact fun e3=>zb1 ho hnd' hne gN e3 hNo
 have hlen:(r.upd k x).nv.length=r.nv.length:=List.length_set ..;have hget: ∀i (hi:i<(r.upd k x).nv.length),(i=k/\(r.upd k x).nv[i]=x)\/(i≠k/\ ∃hi':i<r.nv.length,(r.upd k x).nv[i]=r.nv[i]):=fun i hi=>by
  by_cases e:i=k
  ·subst e;exact .inl ⟨rfl,List.getElem_set_self (l:=r.nv) (by rw[List.length_set];exact hk)⟩
  ·refine .inr ⟨e,by rw[hlen]at hi;exact hi,?_⟩;exact List.getElem_set_ne (l:=r.nv) (fun e2=>e e2.symm) (by rw[List.length_set];rw[hlen]at hi;exact hi)
 have hblk:Whole (W'.setCell ⟨gN,k*7+j,none⟩ u) g 128 #[.string s,.slice r.o r.ts.length r.cap,r.vN,.int .i64 r.wh,.int .i64 r.er]:=ze8 (ze8 h.blk hg hrg) hg2 fun b e hb=>by
  cases e;exact h.ng (hNo.trans (congrArg some hb))
 have hgNl:w0.heap.size<=gN:=(h.nd.lt gN hNo).1;have hsz:=hg.size;refine⟨⟨hblk,h.tk,h.tl,h.tm,?_,?_,?_,?_,?_,?_,h.gl,by rw[hlen];exact h.n4,?_⟩,?_⟩
 ·show (W'.setCell ⟨gN,k*7+j,none⟩ u).ownsRow w0.heap.size 149 7 r.vN (r.upd k x).nv.length (zd4 (r.nv.set k x));rw[hlen,zy4 r.nv k j u x hk hj hx];rw[hvN]at hnd' ⊢;rcases row_putc hnd' (k*7+j) u with h1|h1
  ·exact h1
  ·omega
 ·intro i hi;rcases hget i hi with ⟨_,e⟩|⟨hne,hi',e⟩
  ·rw[e];exact hs hkr (by decide)
  ·rw[e];exact hs (hki i hi' hne) (by decide)
 ·intro i hi;rcases hget i hi with ⟨_,e⟩|⟨hne,hi',e⟩
  ·rw[e];exact hs hpr (by decide)
  ·rw[e];exact hs (hpi i hi' hne) (by decide)
 ·intro i i' hi hi' hne q hq hq';rcases hget i hi with ⟨e0,e⟩|⟨hne1,hi1,e⟩<;>rcases hget i' hi' with ⟨e0',e'⟩|⟨hne2,hi2,e'⟩
  ·omega
  ·rw[e]at hq;rw[e']at hq';rcases hak with ea|ea
   ·exact h.ak k i' hk hi2 (fun e=>hne2 e.symm) q (ea.symm.trans hq) hq'
   ·have:=((h.kr i' hi2).lt q hq').2;rw[ea]at hq;have:=Option.some.inj hq;omega
  ·rw[e]at hq;rw[e']at hq';rcases hak with ea|ea
   ·exact h.ak i k hi1 hk hne1 q hq (ea.symm.trans hq')
   ·have:=((h.kr i hi1).lt q hq).2;rw[ea]at hq';have:=Option.some.inj hq';omega
  ·rw[e]at hq;rw[e']at hq';exact h.ak i i' hi1 hi2 hne q hq hq'
 ·intro i i' hi hi' hne q hq hq';rcases hget i hi with ⟨e0,e⟩|⟨hne1,hi1,e⟩<;>rcases hget i' hi' with ⟨e0',e'⟩|⟨hne2,hi2,e'⟩
  ·omega
  ·rw[e]at hq;rw[e']at hq';rcases hap with ea|ea
   ·exact h.ap k i' hk hi2 (fun e=>hne2 e.symm) q (ea.symm.trans hq) hq'
   ·have:=((h.pr i' hi2).lt q hq').2;rw[ea]at hq;have:=Option.some.inj hq;omega
  ·rw[e]at hq;rw[e']at hq';rcases hap with ea|ea
   ·exact h.ap i k hi1 hk hne1 q hq (ea.symm.trans hq')
   ·have:=((h.pr i hi1).lt q hq).2;rw[ea]at hq';have:=Option.some.inj hq';omega
  ·rw[e]at hq;rw[e']at hq';exact h.ap i i' hi1 hi2 hne q hq hq'
 ·exact (h.bl.grown hg h.bl.size fun b e=>(h.own_lt b (hrowo b e)).1).setCell hgNl u
 ·intro i hi;rw[hlen];rcases hget i hi with ⟨_,e⟩|⟨hne,hi',e⟩
  ·rw[e];exact hkl
  ·rw[e];exact h.kl i hi'
 ·have hown': ∀b,(r.upd k x).own g b->r.own g b\/W.heap.size<=b:=fun b hb=>by
   rcases hb with rfl|hb|⟨i,hi,hb⟩
   ·exact .inl (.inl rfl)
   ·exact .inl (.inr (.inl hb))
   ·rcases hget i hi with ⟨_,e⟩|⟨hne,hi',e⟩
    ·rw[e]at hb;rcases hb with hb|hb
     ·rcases hak with ea|ea
      ·exact .inl (.inr (.inr ⟨k,hk,.inl (ea.symm.trans hb)⟩))
      ·rw[ea]at hb;exact .inr (Nat.le_of_eq (Option.some.inj hb))
     ·rcases hap with ea|ea
      ·exact .inl (.inr (.inr ⟨k,hk,.inr (ea.symm.trans hb)⟩))
      ·rw[ea]at hb;exact .inr (Nat.le_of_eq (Option.some.inj hb))
    ·rw[e]at hb;exact .inl (.inr (.inr ⟨i,hi',hb⟩))
  have hmem:(r.upd k x).own g (⟨gN,k*7+j,none⟩:Addr).block:= .inr (.inl hNo);exact((Fr.refl _ _).grown hg hrowo hown').set hmem u
end
theorem Rd.cells {w0 W:World} {g:Nat} {s:ByteArray} {r:RS} (h:Rd w0 g s r W):W.cell? ⟨g,0,none⟩=some (.string s)/\W.cell? ⟨g,1,none⟩=some (.slice r.o r.ts.length r.cap)/\W.cell? ⟨g,2,none⟩=some r.vN/\W.cell? ⟨g,3,none⟩=some (.int .i64 r.wh)/\W.cell? ⟨g,4,none⟩=some (.int .i64 r.er)/\ ∀i,W.frozen? ⟨g,i,none⟩=false:=
 ⟨h.blk.at_ 0,h.blk.at_ 1,h.blk.at_ 2,h.blk.at_ 3,h.blk.at_ 4,h.blk.free⟩
theorem zb2 {w:World} {a:Addr} {v:Value} (h:w.cell? a=some v):a.block<w.heap.size:=World.block_lt_of_cell? w a h
def set3(w:World)(b:Nat)(u0 u1 u2:Value):World:=((w.setCell ⟨b,0,none⟩ u0).setCell ⟨b,1,none⟩ u1).setCell ⟨b,2,none⟩ u2
theorem zp7 {w:World} {b:Nat} {T:TypeId} {x y z:Value} (h:Whole w b T #[x,y,z])(u0 u1 u2:Value):Whole (set3 w b u0 u1 u2) b T #[u0,u1,u2]:=((h.put 0 u0).put 1 u1).put 2 u2
theorem Rd.far {w0 W:World} {g:Nat} {s:ByteArray} {r:RS} (h:Rd w0 g s r W) {p:Addr} (hp: ¬r.own g p.block)(hb:w0.heap.size<=p.block)(u:Value):Rd w0 g s r (W.setCell p u):=by
 have hg:=zi6 W p u;refine⟨h.blk.far (fun e=>hp (.inl e.symm)) u,h.tk,h.tl,h.tm,?_,?_,?_,h.ak,h.ap,h.bl.setCell hb u,h.gl,h.n4,h.kl⟩
 ·exact za5 h.nd hg fun b e e2=>by cases e;exact hp (.inr (.inl e2))
 ·exact fun i hi=>za5 (h.kr i hi) hg fun b e e2=>by cases e;exact hp (.inr (.inr ⟨i,hi,.inl e2⟩))
 ·exact fun i hi=>za5 (h.pr i hi) hg fun b e e2=>by cases e;exact hp (.inr (.inr ⟨i,hi,.inr e2⟩))
theorem Fr.new {o o':Nat->Prop} {W W':World} (h:Fr o o' W W') {p:Addr} (hp:W.heap.size<=p.block)(u:Value):Fr o o' W (W'.setCell p u):=
 ⟨h.os,h.tape,h.output,Nat.le_trans h.size (by simp[World.setCell]),fun k hk hn=>(Below.heap_setCell _ _ _ _ (by omega)).trans (h.block k hk hn),h.own⟩
theorem Rd.far3 {w0 W:World} {g:Nat} {s:ByteArray} {r:RS} (h:Rd w0 g s r W) {b:Nat} (hp: ¬r.own g b)(hb:w0.heap.size<=b)(u0 u1 u2:Value):Rd w0 g s r (set3 W b u0 u1 u2):=((h.far (p:=⟨b,0,none⟩) hp hb u0).far (p:=⟨b,1,none⟩) hp hb u1).far (p:=⟨b,2,none⟩) hp hb u2
theorem Fr.new3 {o o':Nat->Prop} {W W':World} (h:Fr o o' W W') {b:Nat} (hp:W.heap.size<=b)(u0 u1 u2:Value):Fr o o' W (set3 W' b u0 u1 u2):=((h.new (p:=⟨b,0,none⟩) hp u0).new (p:=⟨b,1,none⟩) hp u1).new (p:=⟨b,2,none⟩) hp u2
def RS.at(r:RS)(ts:List Tok)(o:Option Addr)(cap:Nat):RS:= {r with ts:=ts,o:=o,cap:=cap}
def RS.bad(r:RS)(wh er:Int):RS:= {r with wh:=wh,er:=er}
theorem Rd.tail {w0 W:World} {g:Nat} {s:ByteArray} {r:RS} {t:Tok} {l:List Tok} {o:Option Addr} {cap:Nat} (h:Rd w0 g s (r.at (t::l) o cap) W):
 ∃b f A,o=some ⟨b,f,none⟩/\(if cap=1 then some (⟨b,f,none⟩:Addr) else some ⟨b,f+3,none⟩)=A/\l.length+1<=cap/\Rd w0 g s (r.at l A (cap-1)) (W.setCell ⟨g,1,none⟩ (.slice A l.length (cap-1))):=by
 obtain⟨b,f,ho,_⟩:=h.tk.1 0 (by simp[RS.at]);simp only[RS.at]at ho;subst ho;have hcap:=h.tl;have hcm:=h.tm;simp only[RS.at,List.length_cons]at hcap hcm;refine⟨b,f,_,rfl,rfl,hcap,h.next (l:=l) (cap':=cap-1) (by omega) (by unfold maxLen at*;omega) ⟨?_,fun t ht=>h.tk.2 t (List.mem_cons_of_mem _ ht)⟩⟩;split
 ·rename_i h1;have:l=[]:=List.eq_nil_of_length_eq_zero (by omega);subst this;exact fun i hi=>absurd hi (Nat.not_lt_zero _)
 ·exact TokIn.tail h.tk.1
theorem zr6(t:Tok)(l:List Tok):nbl (t::l)=if t.1=1 then nbl l else t::nbl l:=by
 unfold nbl;rw[List.filter_cons];by_cases h:t.1=1
 ·rw[if_pos h,if_neg (by simp[h])]
 ·rw[if_neg h,if_pos (by simp[h])]
def zx:List Tok->Value
 | []=> .tuple #[.agg #[.int .i64 0,.int .i64 0,.int .i64 0],.bool false]
 |t::_=> .tuple #[.agg #[.int .i64 (t.1:Int),.int .i64 (t.2.1:Int),.int .i64 (t.2.2:Int)],.bool true]
def Stands(ts:List Tok):Prop:=ts=[]\/ ∃t l,ts=t::l/\t.1≠1
def zR4(w0:World)(g:Nat)(s:ByteArray)(r:RS)(W:World)(e:Ending)(W':World):Prop:=
 ∃ts o cap,e= .returned (zx ts)/\Rd w0 g s (r.at ts o cap) W'/\Fr (r.own g) (r.own g) W W'/\nbl ts=nbl r.ts/\Stands ts
theorem zt2 {w0 W:World} {g:Nat} {s:ByteArray} {r:RS} (h:Rd w0 g s r W)(er wh:Int):
 Calls Tryz.prog 152 #[.pointer (some ⟨g,0,none⟩),.int .i64 er,.int .i64 wh] W fun e W'=>e= .returned (.bool false)/\Rd w0 g s (r.bad wh er) W'/\Fr (r.own g) (r.own g) W W':=by
 have HR:=hq (h.fail wh er);have HF:=hq (Fr.fail r g W wh er);obtain⟨c0,c1,c2,c3,c4,cf⟩:=h.cells;have c3':(W.setCell ⟨g,4,none⟩ (.int .i64 er)).cell? ⟨g,3,none⟩=some (.int .i64 r.wh):=(h.blk.put 4 (.int .i64 er)).at_ 3;have cf': ∀i,(W.setCell ⟨g,4,none⟩ (.int .i64 er)).frozen? ⟨g,i,none⟩=false:=(h.blk.put 4 (.int .i64 er)).free;clear h;go_enter Tryz.func152,Tryz.ntmps152
 go_wp2_with fail
 go_ret
 exact⟨rfl,HR.o,HF.o⟩
theorem zy8 {w0 W:World} {g:Nat} {s:ByteArray} {r:RS} (h:Rd w0 g s r W):
 Calls Tryz.prog 114 #[.pointer (some ⟨g,0,none⟩)] W (zR4 w0 g s r W):=by
 have HR:=hq h;have HP:Hq (∀ts o cap W',Rd w0 g s (r.at ts o cap) W'->Fr (r.own g) (r.own g) W W'->nbl ts=nbl r.ts->Stands ts->zR4 w0 g s r W (.returned (zx ts)) W'):=hq (fun ts o cap W' h1 h2 h3 h4=>⟨ts,o,cap,rfl,h1,h2,h3,h4⟩);have hgl:=h.blk.lt;clear h;generalize hPP:zR4 w0 g s r W=PP at *;clear hPP;go_enter Tryz.func114,Tryz.ntmps114
 go_wp2_with fail
 go_loopg [] r.ts.length (fun k wr=> ∃ts o cap,ts.length<=k/\Hq (Rd w0 g s (r.at ts o cap) wr/\Fr (r.own g) (r.own g) W wr/\nbl ts=nbl r.ts/\Whole wr W.heap.size 131 #[.int .i64 0,.int .i64 0,.int .i64 0]))
 case atStart=>exact⟨r.ts,r.o,r.cap,Nat.le_refl _,hq ⟨HR.o.grow (za0 W _),Fr.of_below _ (za0 W _),rfl,Whole.made W _ _⟩⟩
 case round=>
  obtain⟨ts,o,cap,hk,hR⟩:=hrel;obtain⟨c0,c1,_,_,_,cf⟩:=hR.o.1.cells;simp only[RS.at]at c1;have cZ0:=hR.o.2.2.2.at_ 0;have cZ1:=hR.o.2.2.2.at_ 1;have cZ2:=hR.o.2.2.2.at_ 2;have hnz:=hR.o.2.2.2.free;cases ts with
  |nil=>
   have hno: ¬r.own g W.heap.size:=fun ho=>by have:=(HR.o.own_lt _ ho).2;omega
   have hwl:w0.heap.size<=W.heap.size:=HR.o.bl.size;have HS:=hq (zp7 hR.o.2.2.2 (.int .i64 0) (.int .i64 0) (.int .i64 0));have HV:=hq (HP.o [] o cap _ (hR.o.1.far3 hno hwl (.int .i64 0) (.int .i64 0) (.int .i64 0)) (hR.o.2.1.new3 (Nat.le_refl _) _ _ _) hR.o.2.2.1 (.inl rfl));have z0:=HS.o.at_ 0;have z1:=HS.o.at_ 1;have z2:=HS.o.at_ 2;unfold set3 at z0 z1 z2 HV;have HZ:=hq (And.intro z0 (And.intro z1 z2));clear HR z0 z1 z2 HS;go_wp2_with fail
   refine bodyPost_ret (v:=zx []) ?_ rfl HV.o;obtain⟨z0,z1,z2⟩:=HZ.o;simp[results,Tryz.results114,go_sem,z0,z1,z2,zx]
  |cons t l=>
   obtain⟨b,f,ho,t0,t1,t2⟩:=hR.o.1.tk.1 0 (by simp[RS.at]);simp only[RS.at,List.getElem_cons_zero]at ho t0 t1 t2;subst ho;have hbw:=hR.o.1.bl
   replace t0:=(hbw.cell (zb2 t0)).trans t0
   replace t1:=(hbw.cell (zb2 t1)).trans t1
   replace t2:=(hbw.cell (zb2 t2)).trans t2
   rw[Nat.zero_mul,Nat.add_zero]at t0 t1 t2;have hcap:=hR.o.1.tl;have hcm:=hR.o.1.tm;simp only[RS.at,List.length_cons]at hcap hcm c1;obtain⟨m,hm⟩: ∃m,m=l.length+1:=⟨_,rfl⟩;rw[←hm]at c1;have hm0:0<m:=by omega
   have hmz:(0:Int)<(m:Int):=by omega
   have hm1:1<=m:=by omega
   have hml:m-1=l.length:=by omega
   have hno: ¬r.own g W.heap.size:=fun ho=>by have:=(HR.o.own_lt _ ho).2;omega
   have hwl:w0.heap.size<=W.heap.size:=HR.o.bl.size;clear hm hbw HR;obtain⟨t',ta,tb⟩:=t;simp only at t0 t1 t2;by_cases hb:t'=1
   ·subst hb;obtain⟨A,hA⟩: ∃A:Option Addr,(if cap=1 then some (⟨b,f,none⟩:Addr) else some ⟨b,f+3,none⟩)=A:=⟨_,rfl⟩;have HN:=hq (hR.o.1.next (l:=l) (o':=A) (cap':=cap-1) (by omega) (by unfold maxLen at*;omega) ⟨by
     rw[←hA];split
     ·rename_i h1;have:l=[]:=List.eq_nil_of_length_eq_zero (by omega);subst this;exact fun i hi=>absurd hi (Nat.not_lt_zero _)
     ·exact TokIn.tail hR.o.1.tk.1,fun t ht=>hR.o.1.tk.2 t (List.mem_cons_of_mem _ ht)⟩)
    have HF:=hq (hR.o.2.1.trans (Fr.put r g wr 1 (.slice A l.length (cap-1))));have HNB:Hq (nbl l=nbl r.ts):=hq (by have h:=hR.o.2.2.1;rw[zr6,if_pos rfl]at h;exact h);have HWW:Hq (Whole (wr.setCell ⟨g,1,none⟩ (.slice A l.length (cap-1))) W.heap.size 131 #[.int .i64 0,.int .i64 0,.int .i64 0]):=hq (hR.o.2.2.2.far (p:=⟨g,1,none⟩) (by simp only;omega) _);clear hR;go_wp2_with fail
    go_roundg l.length
    case measure=>simp only[List.length_cons]at hk;omega
    case rel=>exact⟨l,A,cap-1,Nat.le_refl _,hq ⟨HN.o,HF.o,HNB.o,HWW.o⟩⟩
   ·have hbz:((t':Int)==1)=false:=beq_eq_false_iff_ne.2 (by omega);have hbz2: ¬(t':Int)=1:=by omega
    have HS:=hq (zp7 hR.o.2.2.2 (.int .i64 (t':Int)) (.int .i64 (ta:Int)) (.int .i64 (tb:Int)));have HV:=hq (HP.o ((t',ta,tb)::l) (some ⟨b,f,none⟩) cap _ (hR.o.1.far3 hno hwl (.int .i64 (t':Int)) (.int .i64 (ta:Int)) (.int .i64 (tb:Int))) (hR.o.2.1.new3 (Nat.le_refl _) _ _ _) hR.o.2.2.1 (.inr ⟨_,_,rfl,hb⟩));have z0:=HS.o.at_ 0;have z1:=HS.o.at_ 1;have z2:=HS.o.at_ 2;unfold set3 at z0 z1 z2 HV;have HZ:=hq (And.intro z0 (And.intro z1 z2));clear z0 z1 z2 HS hR;go_wp2_with fail
    refine bodyPost_ret (v:=zx ((t',ta,tb)::l)) ?_ rfl HV.o;obtain⟨z0,z1,z2⟩:=HZ.o;simp[results,Tryz.results114,go_sem,z0,z1,z2,zx]
def tokA(t:Tok):Value:= .agg #[.int .i64 (t.1:Int),.int .i64 (t.2.1:Int),.int .i64 (t.2.2:Int)]
def zI9:Value:= .agg #[.int .i64 0,.int .i64 0,.int .i64 0]
def zm3(w0:World)(g:Nat)(s:ByteArray)(r:RS)(one other:Nat)(W:World)(e:Ending)(W':World):Prop:=
 match ze4 s.size one other (nbl r.ts) with
 | .inl (wh,er)=>e= .returned (.tuple #[zI9,.bool false])/\(∃ts o cap,Rd w0 g s ((r.at ts o cap).bad wh er) W')/\Fr (r.own g) (r.own g) W W'
 | .inr (t,l)=>e= .returned (.tuple #[tokA t,.bool true])/\(t.2.1<=t.2.2/\t.2.2<=s.size)/\(∃ts o cap,Rd w0 g s (r.at ts o cap) W'/\nbl ts=l)/\Fr (r.own g) (r.own g) W W'
theorem zy7 {w0 W:World} {g:Nat} {s:ByteArray} {r:RS} (h:Rd w0 g s r W)(one other:Nat):
 Calls Tryz.prog 218 #[.pointer (some ⟨g,0,none⟩),.int .i64 (one:Int),.int .i64 (other:Int)] W (zm3 w0 g s r one other W):=by
 have HN:=hq (zy8 (h.grow (za0 W (.cells #[.int .i64 0,.int .i64 0,.int .i64 0] 131))));have HL:Hq (Lo (r.own g) (W.alloc (.cells #[.int .i64 0,.int .i64 0,.int .i64 0] 131)) W.heap.size 131 #[.int .i64 0,.int .i64 0,.int .i64 0]):=hq (Lo.new (fun k hk=>(h.own_lt k hk).2) _ _);have HF0:Hq (Fr (r.own g) (r.own g) W (W.alloc (.cells #[.int .i64 0,.int .i64 0,.int .i64 0] 131))):=hq (Fr.of_below _ (za0 W _));have hwl:w0.heap.size<=W.heap.size:=h.bl.size;have HOL:=hq h.own_lt;clear h;have HPL:Hq (∀wh er W',ze4 s.size one other (nbl r.ts)= .inl (wh,er)->(∃ts o cap,Rd w0 g s ((r.at ts o cap).bad wh er) W')->Fr (r.own g) (r.own g) W W'->zm3 w0 g s r one other W (.returned (.tuple #[zI9,.bool false])) W'):=hq (fun wh er W' h1 h2 h3=>by unfold zm3;rw[h1];exact⟨rfl,h2,h3⟩);have HPR:Hq (∀t l W',ze4 s.size one other (nbl r.ts)= .inr (t,l)->(t.2.1<=t.2.2/\t.2.2<=s.size)->(∃ts o cap,Rd w0 g s (r.at ts o cap) W'/\nbl ts=l)->Fr (r.own g) (r.own g) W W'->zm3 w0 g s r one other W (.returned (.tuple #[tokA t,.bool true])) W'):=hq (fun t l W' h1 h0 h2 h3=>by unfold zm3;rw[h1];exact⟨rfl,h0,h2,h3⟩);generalize hPP:zm3 w0 g s r one other W=PP at *;clear hPP;go_enter Tryz.func218,Tryz.ntmps218
 go_wp2_with fail
 refine HN.o.mono ?_;rintro e W2 ⟨ts,o,cap,rfl,hR,hF,hnb,hst⟩;have HR2:=hq hR;have HL2:=hq (HL.o.step hF);have HF2:=hq (HF0.o.trans hF);have HNB:=hq hnb;clear hR hF hnb HN HL HF0;rcases hst with rfl|⟨t,l,rfl,ht⟩
 ·unfold zx;have HT:Hq (ze4 s.size one other (nbl r.ts)= .inl (s.size,2)):=hq (by rw[←HNB.o];rfl);have HW3:=hq (HR2.o.grow (za0 W2 (.cells #[.int .i64 0,.int .i64 0,.int .i64 0] 131)));have HF3:=hq (HF2.o.trans (Fr.of_below _ (za0 W2 (.cells #[.int .i64 0,.int .i64 0,.int .i64 0] 131))));have HL3:=hq (HL2.o.below (za0 W2 (.cells #[.int .i64 0,.int .i64 0,.int .i64 0] 131)));have hc0:=HW3.o.cells.1;have HC:=hq (zt2 HW3.o 2 (s.size:Int));clear HR2 HF2 HL2 HNB;go_wp2_with fail
  refine HC.o.mono ?_;rintro e W4 ⟨rfl,hR4,hF4⟩;have HF4:=hq (HF3.o.trans hF4);have HL4:=hq (HL3.o.step hF4);have HS:=hq (zp7 HL4.o.at_ (.int .i64 0) (.int .i64 0) (.int .i64 0));have HV:=hq (HPL.o s.size 2 _ HT.o ⟨[],o,cap,hR4.far3 HL4.o.no hwl (.int .i64 0) (.int .i64 0) (.int .i64 0)⟩ (HF4.o.new3 (Nat.le_refl _) _ _ _));have z0:=HS.o.at_ 0;have z1:=HS.o.at_ 1;have z2:=HS.o.at_ 2;have y0:=HL4.o.at_.at_ 0;have y1:=HL4.o.at_.at_ 1;have y2:=HL4.o.at_.at_ 2;have yf:=HL4.o.at_.free;unfold set3 at z0 z1 z2 HV;have HZ:=hq (And.intro z0 (And.intro z1 z2));clear z0 z1 z2 HS HC hR4 hF4 HF3 HL3 HW3 hc0;go_wp2_with fail
  refine bodyPost_ret (v:= .tuple #[zI9,.bool false]) ?_ rfl HV.o;obtain⟨z0,z1,z2⟩:=HZ.o;simp[results,Tryz.results218,go_sem,z0,z1,z2,zI9]
 ·obtain ⟨kd,ta,tb⟩:=t;unfold zx;dsimp only;simp only at ht;have HNB2:Hq (nbl r.ts=(kd,ta,tb)::nbl l):=hq (by rw[←HNB.o,zr6,if_neg ht]);have HW3:=hq (HR2.o.grow (za0 W2 (.cells #[.int .i64 (kd:Int),.int .i64 (ta:Int),.int .i64 (tb:Int)] 131)));have HF3:=hq (HF2.o.trans (Fr.of_below _ (za0 W2 (.cells #[.int .i64 (kd:Int),.int .i64 (ta:Int),.int .i64 (tb:Int)] 131))));have HL3:=hq (HL2.o.below (za0 W2 (.cells #[.int .i64 (kd:Int),.int .i64 (ta:Int),.int .i64 (tb:Int)] 131)));have HB3:Hq (Lo (r.own g) (W2.alloc (.cells #[.int .i64 (kd:Int),.int .i64 (ta:Int),.int .i64 (tb:Int)] 131)) W2.heap.size 131 #[.int .i64 (kd:Int),.int .i64 (ta:Int),.int .i64 (tb:Int)]):=hq (Lo.new (fun k hk=>(HR2.o.own_lt k hk).2) _ _);have x0:=HB3.o.at_.at_ 0;have x1:=HB3.o.at_.at_ 1;have x2:=HB3.o.at_.at_ 2;have HC:=hq (zt2 HW3.o 2 (ta:Int));by_cases hno:kd≠one/\kd≠other
  ·have h1:((kd:Int) !=(one:Int))=true:=bne_iff_ne.2 (by omega);have h2:((kd:Int) !=(other:Int))=true:=bne_iff_ne.2 (by omega);have h3: ¬(kd:Int)=(one:Int):=by omega
   have h4: ¬(kd:Int)=(other:Int):=by omega
   have HT:Hq (ze4 s.size one other (nbl r.ts)= .inl (ta,2)):=hq (by rw[HNB2.o];unfold ze4;simp only;rw[if_pos hno]);clear HR2 HF2 HL2 HNB HNB2;go_wp2_with fail
   refine HC.o.mono ?_;rintro e W4 ⟨rfl,hR4,hF4⟩;have HF4:=hq (HF3.o.trans hF4);have HL4:=hq (HL3.o.step hF4);have HS:=hq (zp7 HL4.o.at_ (.int .i64 0) (.int .i64 0) (.int .i64 0));have HV:=hq (HPL.o ta 2 _ HT.o ⟨_,o,cap,hR4.far3 HL4.o.no hwl (.int .i64 0) (.int .i64 0) (.int .i64 0)⟩ (HF4.o.new3 (Nat.le_refl _) _ _ _));have z0:=HS.o.at_ 0;have z1:=HS.o.at_ 1;have z2:=HS.o.at_ 2;have y0:=HL4.o.at_.at_ 0;have y1:=HL4.o.at_.at_ 1;have y2:=HL4.o.at_.at_ 2;have yf:=HL4.o.at_.free;unfold set3 at z0 z1 z2 HV;have HZ:=hq (And.intro z0 (And.intro z1 z2));clear z0 z1 z2 HS HC hR4 hF4 HF3 HL3 HW3 HB3 x0 x1 x2;go_wp2_with fail
   refine bodyPost_ret (v:= .tuple #[zI9,.bool false]) ?_ rfl HV.o;obtain⟨z0,z1,z2⟩:=HZ.o;simp[results,Tryz.results218,go_sem,z0,z1,z2,zI9]
  ·have HT:Hq (ze4 s.size one other (nbl r.ts)= .inr ((kd,ta,tb),nbl l)):=hq (by rw[HNB2.o];unfold ze4;simp only;rw[if_neg hno]);obtain⟨b,f,A,ho,hA,hcap,hR5⟩:=HW3.o.tail;subst ho;have hc1:=HW3.o.cells.2.1;have hcf:=HW3.o.cells.2.2.2.2.2;simp only[RS.at,List.length_cons]at hc1;obtain⟨m,hm⟩: ∃m,m=l.length+1:=⟨_,rfl⟩;rw[←hm]at hc1 hcap;have hm0:0<m:=by omega
   have hmz:(0:Int)<(m:Int):=by omega
   have hm1:1<=m:=by omega
   have hml:m-1=l.length:=by omega
   have hF5:=HF3.o.trans (Fr.put r g _ 1 (.slice A l.length (cap-1)));have hfr:=Fr.put r g (W2.alloc (.cells #[.int .i64 (kd:Int),.int .i64 (ta:Int),.int .i64 (tb:Int)] 131)) 1 (.slice A l.length (cap-1));have hL5:=HL3.o.step hfr;have hB5:=HB3.o.step hfr;have HS:=hq (zp7 hL5.at_ (.int .i64 (kd:Int)) (.int .i64 (ta:Int)) (.int .i64 (tb:Int)));have HV:=hq (HPR.o (kd,ta,tb) _ _ HT.o (HW3.o.tk.2 (kd,ta,tb) (List.mem_cons_self ..)) ⟨l,A,cap-1,hR5.far3 hL5.no hwl (.int .i64 (kd:Int)) (.int .i64 (ta:Int)) (.int .i64 (tb:Int)),rfl⟩ (hF5.new3 (Nat.le_refl _) _ _ _));have z0:=HS.o.at_ 0;have z1:=HS.o.at_ 1;have z2:=HS.o.at_ 2;have y0:=hL5.at_.at_ 0;have y1:=hL5.at_.at_ 1;have y2:=hL5.at_.at_ 2;have yf:=hL5.at_.free;have v0:=hB5.at_.at_ 0;have v1:=hB5.at_.at_ 1;have v2:=hB5.at_.at_ 2;unfold set3 at z0 z1 z2 HV;have HZ:=hq (And.intro z0 (And.intro z1 z2));clear z0 z1 z2 HS HC hR5 hF5 hfr hL5 hB5 HF3 HL3 HW3 HB3 HR2 HF2 HL2 HNB HNB2 HT hm;by_cases h1:kd=one
   ·subst h1;go_wp2_with fail
    refine bodyPost_ret (v:= .tuple #[tokA (kd,ta,tb),.bool true]) ?_ rfl HV.o;obtain⟨z0,z1,z2⟩:=HZ.o;simp[results,Tryz.results218,go_sem,z0,z1,z2,tokA]
   ·have h2:kd=other:=Decidable.not_not.1 fun h2=>hno ⟨h1,h2⟩
    subst h2;have h3:((kd:Int) !=(one:Int))=true:=bne_iff_ne.2 (by omega);have h4: ¬(kd:Int)=(one:Int):=by omega
    go_wp2_with fail
    refine bodyPost_ret (v:= .tuple #[tokA (kd,ta,tb),.bool true]) ?_ rfl HV.o;obtain⟨z0,z1,z2⟩:=HZ.o;simp[results,Tryz.results218,go_sem,z0,z1,z2,tokA]
def zO3(k:Nat):Nat:=if zb8 k=5 then 191 else if zb8 k=6 then 192 else 190
theorem jleaf_any(v:Value)(a b:Int)(W:World):Calls Tryz.prog 190 #[v,.int .i64 a,.int .i64 b] W fun e W'=>e= .returned (.bool true)/\W=W':=by
 go_enter Tryz.func190,Tryz.ntmps190
 go_wp2_with fail
 go_ret
 exact⟨rfl,rfl⟩
theorem jstep_any(v:Value)(k:Nat)(W:World):Calls Tryz.prog 153 #[v,.int .i64 (k:Int)] W fun e W'=>e= .returned (.tuple #[.int .i64 (zb8 k:Int),.func (.func (zO3 k)) #[v] #[]])/\W=W':=by
 have hmf: ∀fn first cap w,(Instr.makeFunc fn first cap).run Tryz.prog w= .ok (.func fn first cap) w:=fun _ _ _ _=>rfl
 by_cases h12:k=12
 ·subst h12;go_enter Tryz.func153,Tryz.ntmps153
  go_wp2_with fail
  go_ret2
  exact⟨rfl,rfl⟩
 by_cases h10:k=10
 ·subst h10;go_enter Tryz.func153,Tryz.ntmps153
  go_wp2_with fail
  go_ret2
  exact⟨rfl,rfl⟩
 by_cases h11:k=11
 ·subst h11;go_enter Tryz.func153,Tryz.ntmps153
  go_wp2_with fail
  go_ret2
  exact⟨rfl,rfl⟩
 by_cases h9:k=9
 ·subst h9;go_enter Tryz.func153,Tryz.ntmps153
  go_wp2_with fail
  go_ret2
  exact⟨rfl,rfl⟩
 by_cases h8:k=8
 ·subst h8;go_enter Tryz.func153,Tryz.ntmps153
  go_wp2_with fail
  go_ret2
  exact⟨rfl,rfl⟩
 by_cases h4:k=4
 ·subst h4;go_enter Tryz.func153,Tryz.ntmps153
  go_wp2_with fail
  go_ret2
  exact⟨rfl,rfl⟩
 by_cases h2:k=2
 ·subst h2;go_enter Tryz.func153,Tryz.ntmps153
  go_wp2_with fail
  go_ret2
  exact⟨rfl,rfl⟩
 have HK:Hq (zb8 k=0):=hq (by unfold zb8;rw[if_neg h12,if_neg (by omega),if_neg h9,if_neg h8,if_neg h4,if_neg h2]);have HRF:Hq (zO3 k=190):=hq (by unfold zO3;rw[HK.o];rfl);have e1: ¬(k:Int)=12:=by omega
 have e2: ¬(k:Int)=10:=by omega
 have e3: ¬(k:Int)=11:=by omega
 have e4: ¬(k:Int)=9:=by omega
 have e5: ¬(k:Int)=8:=by omega
 have e6: ¬(k:Int)=4:=by omega
 have e7: ¬(k:Int)=2:=by omega
 have e1':((k:Int)==12)=false:=beq_eq_false_iff_ne.2 e1;have e2':((k:Int)==10)=false:=beq_eq_false_iff_ne.2 e2;have e3':((k:Int)==11)=false:=beq_eq_false_iff_ne.2 e3;have e4':((k:Int)==9)=false:=beq_eq_false_iff_ne.2 e4;have e5':((k:Int)==8)=false:=beq_eq_false_iff_ne.2 e5;have e6':((k:Int)==4)=false:=beq_eq_false_iff_ne.2 e6;have e7':((k:Int)==2)=false:=beq_eq_false_iff_ne.2 e7;go_enter Tryz.func153,Tryz.ntmps153
 go_wp2_with fail
 go_ret2
 exact⟨by rw[HK.o,HRF.o];rfl,rfl⟩
def OM(g:Nat)(M:Nat->Prop)(r:RS)(k:Nat):Prop:=r.own g k\/M k
def zm0(w0:World)(g:Nat)(s:ByteArray)(r:RS)(d:Nat)(key:Nat×Nat)(W:World)(e:Ending)(W':World):Prop:=
 match za4 s.size (za3 s) d (nbl r.ts) key r.ns with
 | .inl (wh,er)=>(∃q:Int,e= .returned (.tuple #[.int .i64 q,.bool false]))/\ ∃r',Rd w0 g s r' W'/\Fr (r.own g) (r'.own g) W W'/\r'.wh=(wh:Int)/\r'.er=er
 | .inr (l,ns)=>e= .returned (.tuple #[.int .i64 (r.nv.length:Int),.bool true])/\ ∃r',Rd w0 g s r' W'/\Fr (r.own g) (r'.own g) W W'/\nbl r'.ts=l/\r'.ns=ns
def zm1(w0:World)(g:Nat)(s:ByteArray)(M:Nat->Prop)(J:RS->List Bs->World->Prop)(ob:Bool)(d:Nat)(r:RS)(had:List Bs)(W:World)(e:Ending)(W':World):Prop:=
 match kidM (za4 s.size (za3 s) d) ob s.size (za3 s) had (nbl r.ts) r.ns with
 | .inl (wh,er)=>(∃q:Int,e= .returned (.tuple #[.int .i64 q,.bool false]))/\ ∃r',Rd w0 g s r' W'/\Fr (OM g M r) (OM g M r') W W'/\r'.wh=(wh:Int)/\r'.er=er
 | .inr (had',l,ns)=>e= .returned (.tuple #[.int .i64 (r.nv.length:Int),.bool true])/\ ∃r',Rd w0 g s r' W'/\J r' had' W'/\Fr (OM g M r) (OM g M r') W W'/\nbl r'.ts=l/\r'.ns=ns
def zg(w0:World)(g:Nat)(s:ByteArray)(M:Nat->Prop)(ob:Bool)(d:Nat)(r:RS)(k:Nat)(W:World)(e:Ending)(W':World):Prop:=
 match zh8 (za4 s.size (za3 s) d) ob s.size (za3 s) k (nbl r.ts) r.ns with
 | .inl (wh,er)=>e= .returned (.bool false)/\ ∃r',Rd w0 g s r' W'/\Fr (OM g M r) (OM g M r') W W'/\r'.wh=(wh:Int)/\r'.er=er
 | .inr (l,ns)=>e= .returned (.bool true)/\ ∃r',Rd w0 g s r' W'/\Fr (OM g M r) (OM g M r') W W'/\nbl r'.ts=l/\r'.ns=ns
theorem Fr.om {g:Nat} {M:Nat->Prop} {r r':RS} {W W':World} (h:Fr (r.own g) (r'.own g) W W'):Fr (OM g M r) (OM g M r') W W':=
 ⟨h.os,h.tape,h.output,h.size,fun k hk hn=>h.block k hk fun ho=>hn (.inl ho),fun k hk=>hk.elim (fun ho=>(h.own k ho).imp .inl id) fun hm=> .inl (.inr hm)⟩
theorem zL7 {α:Type} (l:List α)(k:Nat)(f:α->α)(h:k<l.length):l.modify k f=l.set k (f l[k]):=by
 refine List.ext_getElem? fun i=> ?_
 rw[List.getElem?_modify,List.getElem?_set];by_cases e:k=i
 ·subst e;simp[h]
 ·simp[e]
theorem ns_upd(r:RS)(k:Nat)(x:NV):(r.upd k x).ns=r.ns.set k x.n:=by
 unfold RS.upd RS.ns;exact List.map_set
theorem RS.ns_len(r:RS):r.ns.length=r.nv.length:=by unfold RS.ns;simp
theorem RS.ns_at(r:RS) {k:Nat} (h:k<r.nv.length):r.ns[k]?=some r.nv[k].n:=by unfold RS.ns;simp[h]
def zC5(x:NV)(b:Nat):NV:= {x with n:= {x.n with b:=b}}
def kidV(x:NV)(kid:Nat)(v:Value):NV:= {x with n:= {x.n with kids:=x.n.kids++[kid]},k:=v}
def pcV(x:NV)(pc:Nat×Nat)(v:Value):NV:= {x with n:= {x.n with pcs:=x.n.pcs++[pc]},p:=v}
theorem zv1(r:RS) {k:Nat} (h:k<r.nv.length)(b:Nat):(r.upd k (zC5 r.nv[k] b)).ns=closeN r.ns k b:=by
 rw[ns_upd];unfold closeN;rw[zL7 _ _ _ (by rw[RS.ns_len];exact h)]
 congr 1
 unfold RS.ns zC5;simp
theorem Rd.close {w0 W:World} {g:Nat} {s:ByteArray} {r:RS} (h:Rd w0 g s r W) {k:Nat} (hk:k<r.nv.length) {gN cap:Nat} (hvN:r.vN= .slice (some ⟨gN,0,none⟩) r.nv.length cap)(b:Nat):
 Rd w0 g s (r.upd k (zC5 r.nv[k] b)) (W.setCell ⟨gN,k*7+2,none⟩ (.int .i64 (b:Int)))/\Fr (r.own g) ((r.upd k (zC5 r.nv[k] b)).own g) W (W.setCell ⟨gN,k*7+2,none⟩ (.int .i64 (b:Int))):=
 h.upd hk hvN (by omega) (by simp[ze,zC5]) (World.grownBy.mk rfl rfl rfl (Nat.le_refl _) fun _ _ _=>rfl:W.grownBy W none) (.inl rfl) (h.kr k hk) (h.pr k hk) (.inl rfl) (.inl rfl) (h.kl k hk)
section
variable {v:List Tok->Nat×Nat->List JN->JRes} {ob:Bool} {z:Nat} {tx:Nat->Nat->Bs} {k f:Nat} {had:List Bs} {fr:Nat} {l:List Tok} {ns:List JN}
theorem zy5 {e:JErr} (h:kidM v ob z tx had l ns= .inl e):zk6 v ob z tx k (f+1) had fr l ns= .inl e:=by
 unfold zk6;rw[h]
theorem zA5 {e:JErr} {had':List Bs} {l1:List Tok} {ns1:List JN} (h:kidM v ob z tx had l ns= .inr (had',l1,ns1))(h2:ze4 z 6 (ze7 ob) l1= .inl e):zk6 v ob z tx k (f+1) had fr l ns= .inl e:=by
 unfold zk6;rw[h];simp only;rw[h2]
theorem zH1 {had':List Bs} {l1 r:List Tok} {ns1:List JN} {t:Tok} (h:kidM v ob z tx had l ns= .inr (had',l1,ns1))(h2:ze4 z 6 (ze7 ob) l1= .inr (t,r))(h3:t.1=ze7 ob):zk6 v ob z tx k (f+1) had fr l ns= .inr (r,closeN (addN ns1 k ns.length (fr,t.2.1)) k t.2.2):=by
 unfold zk6;rw[h];simp only;rw[h2];simp only;rw[if_pos h3]
theorem zA6 {had':List Bs} {l1 r:List Tok} {ns1:List JN} {t:Tok} (h:kidM v ob z tx had l ns= .inr (had',l1,ns1))(h2:ze4 z 6 (ze7 ob) l1= .inr (t,r))(h3:t.1≠ze7 ob):zk6 v ob z tx k (f+1) had fr l ns=zk6 v ob z tx k f had' t.2.2 r (addN ns1 k ns.length (fr,t.2.1)):=by
 conv=>lhs;unfold zk6
 rw[h];simp only;rw[h2];simp only;rw[if_neg h3]
end
theorem Rd.mid {w0 W W':World} {g:Nat} {s:ByteArray} {r:RS} (h:Rd w0 g s r W) {k:Nat} (hk:k<r.nv.length) {gN cap:Nat} (hvN:r.vN= .slice (some ⟨gN,0,none⟩) r.nv.length cap) {row:Option Nat} (hg:W.grownBy W' row)(hrow:row=r.nv[k].k.ownBlock\/row=r.nv[k].p.ownBlock):
 (∀j,j<7->W'.cell? ⟨gN,k*7+j,none⟩=(ze r.nv[k])[j]?)/\ ∀o,W'.frozen? ⟨gN,o,none⟩=false:=by
 obtain⟨gN',cap',hv',_,_,hf,hc⟩:=h.node hk;rw[hvN]at hv';cases hv';have hb:W'.heap[gN]?=W.heap[gN]?:=hg.block gN (h.nd.lt gN (by rw[hvN];rfl)).2 fun e=>by
  have hNo:r.vN.ownBlock=some gN:=by rw[hvN];rfl
  rcases hrow with e2|e2
  ·exact zb1 (h.kr k hk) h.nd (by decide) gN (e2.symm.trans e.symm) hNo
  ·exact zb1 (h.pr k hk) h.nd (by decide) gN (e2.symm.trans e.symm) hNo
 exact⟨fun j hj=>(World.cell?_of_block (a:=⟨gN,k*7+j,none⟩) hb).trans (hc j hj),fun o=>(World.frozen?_of_block (a:=⟨gN,o,none⟩) hb).trans (hf o)⟩
theorem upd_upd(r:RS)(k:Nat)(x y:NV):(r.upd k x).upd k y=r.upd k y:=by
 unfold RS.upd;simp
theorem zN0(r:RS) {k:Nat} (hk:k<r.nv.length)(x:NV)(hk':k<(r.upd k x).nv.length):(r.upd k x).nv[k]'hk'=x:=List.getElem_set_self (l:=r.nv) (by rw[List.length_set];exact hk)
theorem zh6(r:RS)(k:Nat)(x:NV):(r.upd k x).nv.length=r.nv.length:=List.length_set ..
theorem add_ns(r:RS) {k:Nat} (h:k<r.nv.length)(kid:Nat)(pc:Nat×Nat)(v v':Value):(r.upd k (pcV (kidV r.nv[k] kid v) pc v')).ns=addN r.ns k kid pc:=by
 rw[ns_upd];unfold addN;rw[zL7 _ _ _ (by rw[RS.ns_len];exact h)]
 congr 1
 unfold RS.ns pcV kidV;simp
theorem add_ns2(r:RS) {k:Nat} (h:k<r.nv.length)(kid:Nat)(v:Value)(hk:k<(r.upd k (kidV r.nv[k] kid v)).nv.length)(pc:Nat×Nat)(v':Value):((r.upd k (kidV r.nv[k] kid v)).upd k (pcV ((r.upd k (kidV r.nv[k] kid v)).nv[k]'hk) pc v')).ns=addN r.ns k kid pc:=by
 rw[zN0 r h _ hk,upd_upd];exact add_ns r h kid pc v v'
theorem Rd.kid {w0 W W':World} {g:Nat} {s:ByteArray} {r:RS} (h:Rd w0 g s r W) {k:Nat} (hk:k<r.nv.length) {gN cap:Nat} (hvN:r.vN= .slice (some ⟨gN,0,none⟩) r.nv.length cap) {kid:Nat} {v':Value} (hlt:r.nv[k].n.kids.length<r.nv.length)
 (hown:W'.ownsRow w0.heap.size 3 1 v' (r.nv[k].n.kids.length+1) (kidC r.nv[k].n.kids++[.int .i64 (kid:Int)])) (hg:W.grownBy W' r.nv[k].k.ownBlock) (hat:v'.ownBlock=r.nv[k].k.ownBlock\/v'.ownBlock=some W.heap.size):
 Rd w0 g s (r.upd k (kidV r.nv[k] kid v')) (W'.setCell ⟨gN,k*7+5,none⟩ v')/\Fr (r.own g) ((r.upd k (kidV r.nv[k] kid v')).own g) W (W'.setCell ⟨gN,k*7+5,none⟩ v'):=
 h.upd hk hvN (by omega) (by simp[ze,kidV]) hg (.inr (.inl ⟨rfl,rfl,rfl⟩)) (by
  have e1:(kidV r.nv[k] kid v').n.kids.length=r.nv[k].n.kids.length+1:=by simp[kidV]
  have e2:kidC (kidV r.nv[k] kid v').n.kids=kidC r.nv[k].n.kids++[.int .i64 (kid:Int)]:=by simp[kidC,kidV]
  rw[e1,e2];exact hown) (za5 (h.pr k hk) hg fun b e=>zb1 (h.kr k hk) (h.pr k hk) (by decide) b e) hat (.inl rfl) ⟨by simp[kidV];omega,(h.kl k hk).2⟩
theorem Rd.piece {w0 W W':World} {g:Nat} {s:ByteArray} {r:RS} (h:Rd w0 g s r W) {k:Nat} (hk:k<r.nv.length) {gN cap:Nat} (hvN:r.vN= .slice (some ⟨gN,0,none⟩) r.nv.length cap) {a b:Nat} {v':Value} (hlt:r.nv[k].n.pcs.length<r.nv.length)
 (hown:W'.ownsRow w0.heap.size 44 2 v' (r.nv[k].n.pcs.length+1) (pcC r.nv[k].n.pcs++[.int .i64 (a:Int),.int .i64 (b:Int)])) (hg:W.grownBy W' r.nv[k].p.ownBlock) (hat:v'.ownBlock=r.nv[k].p.ownBlock\/v'.ownBlock=some W.heap.size):
 Rd w0 g s (r.upd k (pcV r.nv[k] (a,b) v')) (W'.setCell ⟨gN,k*7+6,none⟩ v')/\Fr (r.own g) ((r.upd k (pcV r.nv[k] (a,b) v')).own g) W (W'.setCell ⟨gN,k*7+6,none⟩ v'):=
 h.upd hk hvN (by omega) (by simp[ze,pcV]) hg (.inr (.inr ⟨rfl,rfl,rfl⟩)) (za5 (h.kr k hk) hg fun b e=>zb1 (h.pr k hk) (h.kr k hk) (by decide) b e) (by
  have e1:(pcV r.nv[k] (a,b) v').n.pcs.length=r.nv[k].n.pcs.length+1:=by simp[pcV]
  have e2:pcC (pcV r.nv[k] (a,b) v').n.pcs=pcC r.nv[k].n.pcs++[.int .i64 (a:Int),.int .i64 (b:Int)]:=by simp[pcC,pcV]
  rw[e1,e2];exact hown) (.inl rfl) hat ⟨(h.kl k hk).1,by simp[pcV];omega⟩
theorem infoI:(Tryz.prog.info? 3).map (fun i=>(i.zero,i.size,i.bytes))=some (some (.int .i64 0),1,8):=by kernel_rfl
theorem infoSp:(Tryz.prog.info? 44).map (fun i=>(i.zero,i.size,i.bytes))=some (some (.agg #[.int .i64 0,.int .i64 0]),2,16):=by kernel_rfl
theorem zw5 {ops:Array Oper} {o:Oper} {a:Act} {w:World} {K:Act->World->Prop} {Q:Exit->Act->World->Prop} {E:Prop} (hg:o.guard=none)(s x:Operand)(t:TypeId)
 (ho:o.op= .call {callee:= .builtin .append,args:= #[s,x],argTypes:= #[t,t]})
 (base:Nat) (e:TypeId) (i:TypeInfo) (z:Value) (size bytes:Nat) (ht:Tryz.prog.underlying t=some (.slice e)) (hi:Tryz.prog.info? e=some i) (hz:i.zero=some z)
 (hsize:i.size=size) (hby:i.bytes=bytes) (hzs:z.cells.size=size) (hsz:0<size)
 (v:Value) (n:Nat) (xs:List Value) (hs:a.eval s=v) (hown:w.ownsRow base e size v n xs)
 (ad:Addr) (m c:Nat) (news:List Value) (hx:a.eval x= .slice (some ad) m c) (hl:news.length=m*size) (hnews: ∀j u,news[j]?=some u->w.cell? (ad.add j)=some u) (h1: ∀u∈news,u.oneCell'=true)
 (h63:n+m<=maxLen) (hbytes:(n+m)*bytes<=140737488355328) (hbase:base<=w.heap.size)
 (h: ∀v' w',w'.ownsRow base e size v' (n+m) (xs++news)->w.grownBy w' v.ownBlock->(v'.ownBlock=v.ownBlock\/v'.ownBlock=some w.heap.size)->K (a.put o.dst v') w'):
 if Region.wanted o (yielded ops a.tmps)=true then Oper.wp Tryz.prog o a w K Q else E:=by
 rw[if_pos (by simp[Region.wanted,hg])];obtain⟨v',w',hr,h2,h3,h4,h5⟩:=run_append_own_at (P:=Tryz.prog) w base t o.type e i z size bytes ht hi hz hsize hby hzs hsz v n xs hown ad m c news hl hnews h1 h63 hbytes hbase;unfold Oper.wp execOp;simp only[ho,resolve,invoke,builtin,Sem.run_bind,Sem.run_pure,Result.andThen_ok,List.map_toArray,List.map_cons,List.map_nil,hs,hx,hr];exact h v' w' h2 h3 h5
theorem ze6 {w:World} {B e n size:Nat} {v:Value} {xs:List Value} (h:w.ownsRow B e size v n xs): ∃a c,v= .slice a n c:=by
 rcases h.2 with ⟨rfl,rfl⟩|⟨g',cap',cur,rfl,_⟩
 ·exact ⟨_,_,rfl⟩
 ·exact ⟨_,_,rfl⟩
theorem zj0 {w:World} {B e n size:Nat} {v:Value} {xs:List Value} (h:w.ownsRow B e size v (n+1) xs): ∃g c,v= .slice (some ⟨g,0,none⟩) (n+1) c:=by
 rcases h.2 with ⟨_,h0⟩|⟨g',cap',cur,rfl,_⟩
 ·omega
 ·exact ⟨_,_,rfl⟩
theorem enter_arr(caps:Array Value)(w:World):(callFunc 216 caps).run Tryz.prog w= .ok (.enter 216 caps) w:=by kernel_rfl
theorem enter_obj(caps:Array Value)(w:World):(callFunc 217 caps).run Tryz.prog w= .ok (.enter 217 caps) w:=by kernel_rfl
theorem jlist_any {w0:World} {g:Nat} {s:ByteArray} {M:Nat->Prop} {J:RS->List Bs->World->Prop} {ob:Bool} {d F:Nat} {caps:Array Value} (hcf: ∀w:World,(callFunc F caps).run Tryz.prog w= .ok (.enter F caps) w)
 (HO: ∀r had W,Rd w0 g s r W->J r had W->Calls Tryz.prog F caps W (zm1 w0 g s M J ob d r had W))
 (HJ: ∀r r' had W W',J r had W->Fr (r.own g) (r'.own g) W W'->r.nv.length<=r'.nv.length->J r' had W')
 {r:RS} {W:World} (h:Rd w0 g s r W) (hj:J r [] W) {k:Nat} (hk:k<r.nv.length):
 Calls Tryz.prog 215 #[.pointer (some ⟨g,0,none⟩),.int .i64 (k:Int),.int .i64 (ze7 ob:Int),.func (.func F) #[] caps] W (zg w0 g s M ob d r k W):=by
 have HN:=hq (zy8 h);have HR:=hq h;have HJJ:=hq hj;obtain⟨gN,cN,hvN,hcN,hmN,hfN,hnode⟩:=h.node hk;have n2:W.cell? ⟨gN,k*7+2,none⟩=some (.int .i64 (r.nv[k].n.b:Int)):=hnode 2 (by omega);have hc2:=h.cells.2.2.1;rw[hvN]at hc2;have hkz:(k:Int)<(r.nv.length:Int):=by omega
 have HPL:Hq (∀wh er W' r',zh8 (za4 s.size (za3 s) d) ob s.size (za3 s) k (nbl r.ts) r.ns= .inl (wh,er)->Rd w0 g s r' W'->Fr (OM g M r) (OM g M r') W W'->r'.wh=(wh:Int)->r'.er=er->zg w0 g s M ob d r k W (.returned (.bool false)) W'):=hq (fun wh er W' r' h1 h2 h3 h4 h5=>by unfold zg;rw[h1];exact⟨rfl,r',h2,h3,h4,h5⟩);have HPR:Hq (∀l ns W' r',zh8 (za4 s.size (za3 s) d) ob s.size (za3 s) k (nbl r.ts) r.ns= .inr (l,ns)->Rd w0 g s r' W'->Fr (OM g M r) (OM g M r') W W'->nbl r'.ts=l->r'.ns=ns->zg w0 g s M ob d r k W (.returned (.bool true)) W'):=hq (fun l ns W' r' h1 h2 h3 h4 h5=>by unfold zg;rw[h1];exact⟨rfl,r',h2,h3,h4,h5⟩);generalize hPP:zg w0 g s M ob d r k W=PP at *;have HLM:Hq (zh8 (za4 s.size (za3 s) d) ob s.size (za3 s) k (nbl r.ts) r.ns=if ((nbl r.ts).head?).map (fun t=>t.1)=some (ze7 ob) then .inr ((nbl r.ts).tail,closeN r.ns k (((nbl r.ts).head?.map fun t=>t.2.2).getD 0)) else zk6 (za4 s.size (za3 s) d) ob s.size (za3 s) k ((nbl r.ts).length+1) [] (toN r.ns k) (nbl r.ts) r.ns):=hq rfl;have HTO:Hq (toN r.ns k=r.nv[k].n.b):=hq (by unfold toN;rw[r.ns_at hk];rfl);generalize zh8 (za4 s.size (za3 s) d) ob s.size (za3 s) k (nbl r.ts) r.ns=R at *;generalize hb0:r.nv[k].n.b=b0 at *;generalize toN r.ns k=t0 at *;have hne:ze7 ob≠1:=by cases ob<;>decide
 obtain⟨en,hend⟩: ∃en,ze7 ob=en:=⟨_,rfl⟩;rw[hend]at hne HLM ⊢;have HEN:=hq hend;clear hPP h hj hnode hb0 hend;obtain rfl:=HTO.o;go_enter Tryz.func215,Tryz.ntmps215
 go_wp2_with fail
 refine HN.o.mono ?_;rintro e W2 ⟨ts,o,cap,rfl,hR,hF,hnb,hst⟩;have HR2:=hq hR;have HF2:=hq hF;have HNB:=hq hnb;clear hR hF hnb HN hc2 n2 hfN;by_cases hen:((nbl r.ts).head?).map (fun t=>t.1)=some en
 ·obtain ⟨t,l,rfl,ht⟩: ∃t l,ts=t::l/\t.1=en:=by
   rcases hst with rfl|⟨t,l,rfl,ht⟩
   ·rw[←HNB.o]at hen;cases hen
   ·refine ⟨t,l,rfl,?_⟩;rw[←HNB.o,zr6,if_neg ht]at hen;simpa using hen
  obtain⟨kd,ta,tb⟩:=t;simp only at ht;subst ht;unfold zx;dsimp only;have HNB2:Hq (nbl r.ts=(kd,ta,tb)::nbl l):=hq (by rw[←HNB.o,zr6,if_neg hne]);have HW3:=hq (HR2.o.grow (za0 W2 (.cells #[.int .i64 (kd:Int),.int .i64 (ta:Int),.int .i64 (tb:Int)] 131)));have HF3:=hq (HF2.o.trans (Fr.of_below _ (za0 W2 (.cells #[.int .i64 (kd:Int),.int .i64 (ta:Int),.int .i64 (tb:Int)] 131))));have HB3:Hq (Lo (r.own g) (W2.alloc (.cells #[.int .i64 (kd:Int),.int .i64 (ta:Int),.int .i64 (tb:Int)] 131)) W2.heap.size 131 #[.int .i64 (kd:Int),.int .i64 (ta:Int),.int .i64 (tb:Int)]):=hq (Lo.new (fun k hk=>(HR2.o.own_lt k hk).2) _ _);have x0:=HB3.o.at_.at_ 0;obtain⟨b,f,A,ho,hA,hcap,hR4⟩:=HW3.o.tail;subst ho;have hc1:=HW3.o.cells.2.1;have hcf:=HW3.o.cells.2.2.2.2.2;simp only[RS.at,List.length_cons]at hc1;obtain⟨m,hm⟩: ∃m,m=l.length+1:=⟨_,rfl⟩;rw[←hm]at hc1 hcap;have hm0:0<m:=by omega
  have hmz:(0:Int)<(m:Int):=by omega
  have hm1:1<=m:=by omega
  have hml:m-1=l.length:=by omega
  have hfr:=Fr.put r g (W2.alloc (.cells #[.int .i64 (kd:Int),.int .i64 (ta:Int),.int .i64 (tb:Int)] 131)) 1 (.slice A l.length (cap-1));have HB4:=hq (HB3.o.step hfr);have HF4:=hq (HF3.o.trans hfr);have y2:=HB4.o.at_.at_ 2;have hvN':(r.at l A (cap-1)).vN= .slice (some ⟨gN,0,none⟩) (r.at l A (cap-1)).nv.length cN:=hvN;have d2:=hR4.cells.2.2.1;rw[hvN']at d2;obtain⟨gN',cN',hvN2,_,_,hfN,hnode⟩:=hR4.node (show k<(r.at l A (cap-1)).nv.length from hk);rw[hvN']at hvN2;cases hvN2;have n2:=hnode 2 (by omega);simp only[ze,List.getElem?_cons_succ,List.getElem?_cons_zero]at n2;have hlk:(r.at l A (cap-1)).nv.length=r.nv.length:=rfl;rw[hlk]at d2;have hR5:=(hR4.grow (Below.refl _ _).drew).close (show k<(r.at l A (cap-1)).nv.length from hk) hvN' tb;have HV:=hq (HPR.o (nbl l) (closeN r.ns k tb) _ _ (by rw[HLM.o,if_pos hen,HNB2.o];rfl) hR5.1 (((HF4.o.trans (Fr.of_below _ (Below.refl _ _).drew)).trans hR5.2).om) rfl (zv1 (r.at l A (cap-1)) (show k<(r.at l A (cap-1)).nv.length from hk) tb));clear hR5 HR2 HF2 HNB hnode hR4 hfr HB3 HB4 HF4 HW3 HF3 HPL HPR HLM hm;go_wp2_with fail
  go_region
  all_goals
   go_wp2_with fail
   exact HV.o
 ·have hlp: ∀W3 r3,Rd w0 g s r3 W3->Fr (r.own g) (r3.own g) W W3->nbl r3.ts=nbl r.ts->r3.nv=r.nv->True:=fun _ _ _ _ _ _=>trivial
  rcases hst with rfl|⟨t,l,rfl,ht⟩
  ·unfold zx;dsimp only;obtain⟨r3,hr3,hns3,hnb3⟩: ∃r3,r3=r.at [] o cap/\r3.nv=r.nv/\nbl r3.ts=nbl r.ts:=⟨_,rfl,rfl,HNB.o⟩;rw[←hr3]at HR2;have HF2':Hq (Fr (r.own g) (r3.own g) W W2):=hq (by rw[hr3];exact HF2.o);have HW3:=hq (HR2.o.grow (za0 W2 (.cells #[.int .i64 0,.int .i64 0,.int .i64 0] 131)));have HF3:=hq (HF2'.o.trans (Fr.of_below _ (za0 W2 (.cells #[.int .i64 0,.int .i64 0,.int .i64 0] 131))));have HNB3:=hq hnb3;have HNS3:=hq hns3;clear hr3 hnb3 hns3 HR2 HF2 HF2' HNB hlp;go_wp2_with fail
   go_loopg [9] ((nbl r.ts).length+1) (fun gk frv wr=> ∃r4 had fr,frv= .int .i64 ((fr:Nat):Int)/\k<r4.nv.length/\(nbl r4.ts).length<gk/\Hq (Rd w0 g s r4 wr)/\Hq (J r4 had wr)/\Hq (Fr (OM g M r) (OM g M r4) W wr)/\Hq (R=zk6 (za4 s.size (za3 s) d) ob s.size (za3 s) k gk had fr (nbl r4.ts) r4.ns))
   case atStart=>
    refine⟨r3,[],t0,rfl,by rw[HNS3.o];exact hk,by rw[HNB3.o];omega,HW3,hq (HJ _ _ _ _ _ HJJ.o HF3.o (Nat.le_of_eq (by rw[HNS3.o]))),hq HF3.o.om,hq ?_⟩;have hns:r3.ns=r.ns:=by unfold RS.ns;rw[HNS3.o]
    rw[HLM.o,if_neg hen,HNB3.o,hns]
   case round=>
    obtain⟨r4,had,fr,rfl,hk4,hlt,hR4,hJ4,hF4,hRR⟩:=hrel;obtain⟨f,rfl⟩: ∃f,gk=f+1:=⟨gk-1,by omega⟩;have HC:=hq (HO r4 had wr hR4.o hJ4.o);unfold zm1 at HC;cases hkid:kidM (za4 s.size (za3 s) d) ob s.size (za3 s) had (nbl r4.ts) r4.ns with
    |inl e=>
     obtain⟨wh,er⟩:=e;rw[hkid]at HC;simp only at HC;have HRR:Hq (R= .inl (wh,er)):=hq (hRR.o.trans (zy5 hkid));clear hkid hRR HW3 HF3 HLM;go_wp2_with fail
     refine HC.o.mono ?_;rintro e W5 ⟨⟨q,rfl⟩,r5,hR5,hF5,hwh,her⟩;have HV:=hq (HPL.o wh er W5 r5 HRR.o hR5 (hF4.o.trans hF5) hwh her);clear hR5 hF5 hwh her;go_wp2_with fail
     exact HV.o
    |inr p=>
     obtain⟨had',l1,ns1⟩:=p;rw[hkid]at HC;simp only at HC;have HX:=hq (zy6 (zg0 s.size (za3 s) d) hkid);have HKID:=hq hkid;clear hkid HW3 HF3 HLM;go_wp2_with fail
     refine HC.o.mono ?_;rintro e W5 ⟨rfl,r5,hR5,hJ5,hF5,hts5,hns5⟩;have HR5:=hq hR5;have HT:=hq (zy7 hR5 6 en);have HJ5:=hq hJ5;have HF5:=hq (hF4.o.trans hF5);have HNS5:=hq hns5;unfold zm3 at HT;rw[hts5]at HT;clear hR5 hJ5 hF5 hts5 hns5 HC;cases htk:ze4 s.size 6 en l1 with
     |inl e=>
      obtain⟨wh,er⟩:=e;rw[htk]at HT;simp only at HT;have HRR:Hq (R= .inl (wh,er)):=hq (hRR.o.trans (zA5 HKID.o (by rw[HEN.o];exact htk)));clear htk hRR;go_wp2_with fail
      refine HT.o.mono ?_;rintro e W6 ⟨rfl,⟨ts6,o6,cap6,hR6⟩,hF6⟩;have HV:=hq (HPL.o wh er _ _ HRR.o (hR6.grow (za0 W6 (.cells #[.int .i64 0,.int .i64 0,.int .i64 0] 131))) ((HF5.o.trans hF6.om).trans (Fr.of_below _ (za0 W6 _))) rfl rfl);unfold zI9;clear hR6 hF6;go_wp2_with fail
      exact HV.o
     |inr p=>
      obtain⟨⟨kd6,ta6,tb6⟩,l2⟩:=p;rw[htk]at HT;simp only at HT;have HTK:Hq (ze4 s.size 6 (ze7 ob) l1= .inr ((kd6,ta6,tb6),l2)):=hq (by rw[HEN.o];exact htk);have HTL:=hq (zh1 htk);clear htk;go_wp2_with fail
      refine HT.o.mono ?_;rintro e W6 ⟨rfl,_,⟨ts6,o6,cap6,hR6,hts6⟩,hF6⟩;have hl5:r4.nv.length<r5.nv.length:=by
       have h1:=HX.o.ln;rw[←HNS5.o,RS.ns_len,RS.ns_len]at h1;exact h1
      have hkl:=hR4.o.kl k hk4;have hnk:r5.nv[k].n=r4.nv[k].n:=by
       have h1:=HX.o.at_ k (by rw[RS.ns_len];exact hk4);rw[←HNS5.o,RS.ns_at _ (Nat.lt_trans hk4 hl5),RS.ns_at _ hk4]at h1;exact Option.some.inj h1
      obtain⟨r6,hk6,HR7,HF7,HB7,HJ7,HNS6,hkl1,hkl2,hts7⟩: ∃r6:RS,∃hk6:k<r6.nv.length,Hq (Rd w0 g s r6 (W6.alloc (.cells #[.int .i64 (kd6:Int),.int .i64 (ta6:Int),.int .i64 (tb6:Int)] 131)))/\Hq (Fr (OM g M r) (OM g M r6) W (W6.alloc (.cells #[.int .i64 (kd6:Int),.int .i64 (ta6:Int),.int .i64 (tb6:Int)] 131)))/\
       Hq (Lo (r6.own g) (W6.alloc (.cells #[.int .i64 (kd6:Int),.int .i64 (ta6:Int),.int .i64 (tb6:Int)] 131)) W6.heap.size 131 #[.int .i64 (kd6:Int),.int .i64 (ta6:Int),.int .i64 (tb6:Int)])/\Hq (J r6 had' (W6.alloc (.cells #[.int .i64 (kd6:Int),.int .i64 (ta6:Int),.int .i64 (tb6:Int)] 131)))/\Hq (r6.ns=ns1)/\r6.nv[k].n.kids.length<r6.nv.length/\r6.nv[k].n.pcs.length<r6.nv.length/\Hq (nbl r6.ts=l2):=
       ⟨r5.at ts6 o6 cap6,Nat.lt_trans hk4 hl5,hq (hR6.grow (za0 W6 _)),hq ((HF5.o.trans hF6.om).trans (Fr.of_below _ (za0 W6 _))),hq (Lo.new (fun k hk=>(hR6.own_lt k hk).2) _ _),hq (HJ _ (r5.at ts6 o6 cap6) _ _ _ HJ5.o (hF6.trans (Fr.of_below _ (za0 W6 _))) (Nat.le_refl _)),HNS5,
        by show r5.nv[k].n.kids.length<r5.nv.length;rw[hnk];omega,by show r5.nv[k].n.pcs.length<r5.nv.length;rw[hnk];omega,hq hts6⟩
      clear hnk hkl hR6 hF6 hts6 HR5 HJ5 HF5 HNS5 HT hl5;obtain⟨gM,cM,hvM,_,_,hfM,hnodeM⟩:=HR7.o.node hk6;have d2:=HR7.o.cells.2.2.1;rw[hvM]at d2;have hkz6:(k:Int)<(r6.nv.length:Int):=by omega
      have m5:=hnodeM 5 (by omega);simp only[ze,List.getElem?_cons_succ,List.getElem?_cons_zero]at m5;have hKR:=HR7.o.kr k hk6;obtain⟨ka,kc,hKv⟩:=ze6 hKR;have hn4:=HR7.o.n4;rw[hKv]at m5;have HVM:=hq hvM;clear hnodeM hvM;unfold tokA;dsimp only;go_upto_region 13 with fail
      generalize hW7:W6.alloc (.cells #[.int .i64 (kd6:Int),.int .i64 (ta6:Int),.int .i64 (tb6:Int)] 131)=W7 at *;generalize W6.heap.size=b6 at *;clear hW7;have x0:=HB7.o.at_.at_ 0;have hKR2:W7.ownsRow w0.heap.size 3 1 (.slice ka r6.nv[k].n.kids.length kc) r6.nv[k].n.kids.length (kidC r6.nv[k].n.kids):=by rw[←hKv];exact hKR
      have HKV:=hq hKv;have hww:w0.heap.size<=W7.heap.size:=HR7.o.bl.size;obtain⟨i0,hi0,hz0,hz1,hz2⟩:=info_parts infoI;clear hKv hKR;go_wp2_with (at_builtin;refine wpList_append_own_at _ rfl _ _ 146 rfl w0.heap.size 3 i0 (.int .i64 0) 1 8 Tryz.underlying146 hi0 hz0 hz1 hz2 rfl (by decide) _ _ _ rfl (hKR2.alloc _) ⟨W7.heap.size,0,none⟩ 1 1 [.int .i64 (r4.nv.length:Int)] rfl rfl (ze0 _ [.int .i64 (r4.nv.length:Int)] _) (by simp[Value.oneCell']) (by unfold maxLen;omega) (by omega) (by rw[World.size_alloc];omega) ?_)
      intro v' W9 hown9 hgrow9 _ hat9;obtain⟨g9,c9,rfl⟩:=zj0 hown9;have hR8:=HR7.o.grow (za0 W7 (.cells #[.int .i64 (r4.nv.length:Int)] 3));have hgrow9':(W7.alloc (.cells #[.int .i64 (r4.nv.length:Int)] 3)).grownBy W9 r6.nv[k].k.ownBlock:=by rw[HKV.o];exact hgrow9
      have hkid:=hR8.kid hk6 HVM.o hkl1 hown9 hgrow9' (by rw[HKV.o,World.size_alloc];exact hat9);obtain⟨hm9,hf9⟩:=hR8.mid hk6 HVM.o hgrow9' (.inl rfl);have m59:=hm9 5 (by omega);simp only[ze,List.getElem?_cons_succ,List.getElem?_cons_zero]at m59;rw[HKV.o]at m59;have hfr10:=(Fr.of_below (r6.own g) (za0 W7 (.cells #[.int .i64 (r4.nv.length:Int)] 3))).trans hkid.2;obtain⟨r7,hk7,HR10,HF10,HB10,HJ10,HNS7,hkl7,hts7',HVM7⟩: ∃r7:RS,∃hk7:k<r7.nv.length,Hq (Rd w0 g s r7 (W9.setCell ⟨gM,k*7+5,none⟩ (.slice (some ⟨g9,0,none⟩) (r6.nv[k].n.kids.length+1) c9)))/\Hq (Fr (OM g M r) (OM g M r7) W (W9.setCell ⟨gM,k*7+5,none⟩ (.slice (some ⟨g9,0,none⟩) (r6.nv[k].n.kids.length+1) c9)))/\Hq (Lo (r7.own g) (W9.setCell ⟨gM,k*7+5,none⟩ (.slice (some ⟨g9,0,none⟩) (r6.nv[k].n.kids.length+1) c9)) b6 131 #[.int .i64 (kd6:Int),.int .i64 (ta6:Int),.int .i64 (tb6:Int)])/\Hq (J r7 had' (W9.setCell ⟨gM,k*7+5,none⟩ (.slice (some ⟨g9,0,none⟩) (r6.nv[k].n.kids.length+1) c9)))/\
       Hq (∀pc v',(r7.upd k (pcV r7.nv[k] pc v')).ns=addN r6.ns k r4.nv.length pc)/\r7.nv[k].n.pcs.length<r7.nv.length/\Hq (nbl r7.ts=l2)/\Hq (r7.vN= .slice (some ⟨gM,0,none⟩) r7.nv.length cM):=
       ⟨_,by rw[zh6];exact hk6,hq hkid.1,hq (HF7.o.trans hfr10.om),hq (HB7.o.step hfr10),hq (HJ _ _ _ _ _ HJ7.o hfr10 (Nat.le_of_eq (zh6 ..).symm)),hq (fun pc v'=>add_ns2 r6 hk6 _ _ _ pc v'),by rw[zN0 r6 hk6,zh6];exact hkl2,hts7,hq (by rw[zh6];exact HVM.o)⟩
      clear hkid hfr10 hgrow9 hgrow9' hat9 hown9 hm9 hR8 hKR2;go_upto_region 15 with fail
      clear m5 m59 hf9 hfM hkl1 HR7 HF7 HB7 HJ7 hts7 HVM;generalize W9.setCell ⟨gM,k*7+5,none⟩ (.slice (some ⟨g9,0,none⟩) (r6.nv[k].n.kids.length+1) c9)=W10 at *;have hb12:=(za0 W10 (.cells #[.int .i64 (fr:Int),.int .i64 (ta6:Int)] 44)).drew;have hR12:=HR10.o.grow hb12;have HBL12:=hq hb12;obtain⟨hmm,hff⟩:=HR10.o.mid hk7 HVM7.o (row:=r7.nv[k].p.ownBlock) ⟨rfl,rfl,rfl,Nat.le_refl _,fun _ _ _=>rfl⟩ (.inr rfl);have m6:=hmm 6 (by omega);simp only[ze,List.getElem?_cons_succ,List.getElem?_cons_zero]at m6;have hPR:=hR12.pr k hk7;obtain⟨pa,pcap,hPv⟩:=ze6 hPR;rw[hPv]at m6 hPR;have HPV:=hq hPv;have HR12:=hq hR12;have HPR2:=hq hPR;have x1:=HB10.o.at_.at_ 1;have m6a:=((za0 W10 (.cells #[.int .i64 (fr:Int),.int .i64 (ta6:Int)] 44)).cell (zb2 m6)).trans m6;have hn47:=HR10.o.n4;have hwx:w0.heap.size<=W10.heap.size:=HR10.o.bl.size;obtain⟨i1,hi1,hy0,hy1,hy2⟩:=info_parts infoSp;clear hmm hPv hPR hR12 hb12
      go_region_law (refine zw5 rfl (.tmp 91) (.tmp 97) 147 rfl w0.heap.size 44 i1 (.agg #[.int .i64 0,.int .i64 0]) 2 16 Tryz.underlying147 hi1 hy0 hy1 hy2 rfl (by decide) (.slice pa r7.nv[k].n.pcs.length pcap) r7.nv[k].n.pcs.length (pcC r7.nv[k].n.pcs) (by simp[Act.eval]) HPR2.o ⟨W10.heap.size,0,none⟩ 1 1 [.int .i64 (fr:Int),.int .i64 (ta6:Int)] (by simp[Act.eval]) rfl (ze0 W10 [.int .i64 (fr:Int),.int .i64 (ta6:Int)] _) (by simp[Value.oneCell']) (by unfold maxLen;omega) (by omega) (by show w0.heap.size<=(W10.alloc _).heap.size;rw[World.size_alloc];omega) ?_;intro v'' W12 hown12 hgrow12 hat12;obtain⟨g12,c12,rfl⟩:=zj0 hown12;have HG12:=hq (show World.grownBy _ W12 r7.nv[k].p.ownBlock by rw[HPV.o];exact hgrow12);have m6':=(HR12.o.mid hk7 HVM7.o HG12.o (.inr rfl)).1 6 (by omega);have hff':=(HR12.o.mid hk7 HVM7.o HG12.o (.inr rfl)).2;simp only[ze,List.getElem?_cons_succ,List.getElem?_cons_zero]at m6')
      all_goals
       have hpc:=HR12.o.piece hk7 HVM7.o hkl7 hown12 HG12.o (by rw[HPV.o];exact hat12);have hfr13:=(Fr.of_below (r7.own g) HBL12.o).trans hpc.2;have hns8:=HNS7.o (fr,ta6) (.slice (some ⟨g12,0,none⟩) (r7.nv[k].n.pcs.length+1) c12);obtain⟨r8,hk8,HR13,HF13,HB13,HJ13,HNS8,hts8,HVM8⟩: ∃r8:RS,∃hk8:k<r8.nv.length,Hq (Rd w0 g s r8 (W12.setCell ⟨gM,k*7+6,none⟩ (.slice (some ⟨g12,0,none⟩) (r7.nv[k].n.pcs.length+1) c12)))/\Hq (Fr (OM g M r) (OM g M r8) W (W12.setCell ⟨gM,k*7+6,none⟩ (.slice (some ⟨g12,0,none⟩) (r7.nv[k].n.pcs.length+1) c12)))/\Hq (Lo (r8.own g) (W12.setCell ⟨gM,k*7+6,none⟩ (.slice (some ⟨g12,0,none⟩) (r7.nv[k].n.pcs.length+1) c12)) b6 131 #[.int .i64 (kd6:Int),.int .i64 (ta6:Int),.int .i64 (tb6:Int)])/\Hq (J r8 had' (W12.setCell ⟨gM,k*7+6,none⟩ (.slice (some ⟨g12,0,none⟩) (r7.nv[k].n.pcs.length+1) c12)))/\
        Hq (r8.ns=addN ns1 k r4.ns.length (fr,ta6))/\Hq (nbl r8.ts=l2)/\Hq (r8.vN= .slice (some ⟨gM,0,none⟩) r8.nv.length cM):=
        ⟨_,by rw[zh6];exact hk7,hq hpc.1,hq (HF10.o.trans hfr13.om),hq (HB10.o.step hfr13),hq (HJ _ _ _ _ _ HJ10.o hfr13 (Nat.le_of_eq (zh6 ..).symm)),hq (by rw[hns8,HNS6.o,RS.ns_len]),hts7',hq (by rw[zh6];exact HVM7.o)⟩
       have hlts:l2.length<f:=by
        have h1:=HX.o.ts;rw[HTL.o.1,List.length_cons]at h1;omega
       clear hpc hfr13 hns8 hown12 hgrow12 hat12 HG12 m6' hff' m6 m6a x1 x0 HR12 HPR2 HPV HBL12 HR10 HF10 HB10 HJ10 HNS7 hts7' HVM7 HNS6 HTL HX;go_simp
       generalize W12.setCell ⟨gM,k*7+6,none⟩ (.slice (some ⟨g12,0,none⟩) (r7.nv[k].n.pcs.length+1) c12)=W13 at *;have x0:=HB13.o.at_.at_ 0;have x2:=HB13.o.at_.at_ 2;by_cases hke:kd6=en
       ·have hRE:Hq (R= .inr (l2,closeN (addN ns1 k r4.ns.length (fr,ta6)) k tb6)):=hq (hRR.o.trans (zH1 HKID.o HTK.o (hke.trans HEN.o.symm)));obtain⟨gM',cM',hv',_,_,hf8,hn8⟩:=HR13.o.node hk8;rw[HVM8.o]at hv';cases hv';have m2:=hn8 2 (by omega);simp only[ze,List.getElem?_cons_succ,List.getElem?_cons_zero]at m2;have hcl:=HR13.o.close hk8 HVM8.o tb6;have HV:=hq (HPR.o l2 (closeN (addN ns1 k r4.ns.length (fr,ta6)) k tb6) _ _ hRE.o hcl.1 (HF13.o.trans hcl.2.om) hts8.o ((zv1 _ hk8 tb6).trans (by rw[HNS8.o])));clear hcl hn8 HPR HPL hRE hRR HKID HTK HR13 HF13 HB13 HJ13 HVM8;subst hke;go_wp2_with fail
        exact HV.o
       ·have hkez: ¬(kd6:Int)=(en:Int):=by omega
        have hkeb:((kd6:Int)==(en:Int))=false:=beq_eq_false_iff_ne.2 hkez;have hRE:Hq (R=zk6 (za4 s.size (za3 s) d) ob s.size (za3 s) k f had' tb6 (nbl r8.ts) r8.ns):=hq ((hRR.o.trans (zA6 HKID.o HTK.o (fun h=>hke (h.trans HEN.o)))).trans (by rw[hts8.o,HNS8.o]));clear HPR HPL hRR HKID HTK;go_wp2_with fail
        go_roundg f
        case measure=>omega
        case rel=>exact⟨r8,had',tb6,rfl,hk8,by rw[hts8.o];exact hlts,HR13,HJ13,HF13,hRE⟩
  ·obtain ⟨kd,ta,tb⟩:=t;unfold zx;dsimp only;simp only at ht;have hke:kd≠en:=fun e=>hen (by rw[←HNB.o,zr6,if_neg ht,e];rfl)
   have hkz': ¬(kd:Int)=(en:Int):=by omega
   have hkb:((kd:Int)==(en:Int))=false:=beq_eq_false_iff_ne.2 hkz';obtain⟨r3,hr3,hns3,hnb3⟩: ∃r3,r3=r.at ((kd,ta,tb)::l) o cap/\r3.nv=r.nv/\nbl r3.ts=nbl r.ts:=⟨_,rfl,rfl,HNB.o⟩;rw[←hr3]at HR2;have HF2':Hq (Fr (r.own g) (r3.own g) W W2):=hq (by rw[hr3];exact HF2.o);have HW3:=hq (HR2.o.grow (za0 W2 (.cells #[.int .i64 (kd:Int),.int .i64 (ta:Int),.int .i64 (tb:Int)] 131)));have HF3:=hq (HF2'.o.trans (Fr.of_below _ (za0 W2 (.cells #[.int .i64 (kd:Int),.int .i64 (ta:Int),.int .i64 (tb:Int)] 131))));have HB3:=hq (Whole.made W2 131 #[.int .i64 (kd:Int),.int .i64 (ta:Int),.int .i64 (tb:Int)]);have x0:=HB3.o.at_ 0;have HNB3:=hq hnb3;have HNS3:=hq hns3;clear hr3 hnb3 hns3 HR2 HF2 HF2' HNB hlp;go_wp2_with fail
   go_loopg [9] ((nbl r.ts).length+1) (fun gk frv wr=> ∃r4 had fr,frv= .int .i64 ((fr:Nat):Int)/\k<r4.nv.length/\(nbl r4.ts).length<gk/\Hq (Rd w0 g s r4 wr)/\Hq (J r4 had wr)/\Hq (Fr (OM g M r) (OM g M r4) W wr)/\Hq (R=zk6 (za4 s.size (za3 s) d) ob s.size (za3 s) k gk had fr (nbl r4.ts) r4.ns))
   case atStart=>
    refine⟨r3,[],t0,rfl,by rw[HNS3.o];exact hk,by rw[HNB3.o];omega,HW3,hq (HJ _ _ _ _ _ HJJ.o HF3.o (Nat.le_of_eq (by rw[HNS3.o]))),hq HF3.o.om,hq ?_⟩;have hns:r3.ns=r.ns:=by unfold RS.ns;rw[HNS3.o]
    rw[HLM.o,if_neg hen,HNB3.o,hns]
   case round=>
    obtain⟨r4,had,fr,rfl,hk4,hlt,hR4,hJ4,hF4,hRR⟩:=hrel;obtain⟨f,rfl⟩: ∃f,gk=f+1:=⟨gk-1,by omega⟩;have HC:=hq (HO r4 had wr hR4.o hJ4.o);unfold zm1 at HC;cases hkid:kidM (za4 s.size (za3 s) d) ob s.size (za3 s) had (nbl r4.ts) r4.ns with
    |inl e=>
     obtain⟨wh,er⟩:=e;rw[hkid]at HC;simp only at HC;have HRR:Hq (R= .inl (wh,er)):=hq (hRR.o.trans (zy5 hkid));clear hkid hRR HW3 HF3 HLM;go_wp2_with fail
     refine HC.o.mono ?_;rintro e W5 ⟨⟨q,rfl⟩,r5,hR5,hF5,hwh,her⟩;have HV:=hq (HPL.o wh er W5 r5 HRR.o hR5 (hF4.o.trans hF5) hwh her);clear hR5 hF5 hwh her;go_wp2_with fail
     exact HV.o
    |inr p=>
     obtain⟨had',l1,ns1⟩:=p;rw[hkid]at HC;simp only at HC;have HX:=hq (zy6 (zg0 s.size (za3 s) d) hkid);have HKID:=hq hkid;clear hkid HW3 HF3 HLM;go_wp2_with fail
     refine HC.o.mono ?_;rintro e W5 ⟨rfl,r5,hR5,hJ5,hF5,hts5,hns5⟩;have HR5:=hq hR5;have HT:=hq (zy7 hR5 6 en);have HJ5:=hq hJ5;have HF5:=hq (hF4.o.trans hF5);have HNS5:=hq hns5;unfold zm3 at HT;rw[hts5]at HT;clear hR5 hJ5 hF5 hts5 hns5 HC;cases htk:ze4 s.size 6 en l1 with
     |inl e=>
      obtain⟨wh,er⟩:=e;rw[htk]at HT;simp only at HT;have HRR:Hq (R= .inl (wh,er)):=hq (hRR.o.trans (zA5 HKID.o (by rw[HEN.o];exact htk)));clear htk hRR;go_wp2_with fail
      refine HT.o.mono ?_;rintro e W6 ⟨rfl,⟨ts6,o6,cap6,hR6⟩,hF6⟩;have HV:=hq (HPL.o wh er _ _ HRR.o (hR6.grow (za0 W6 (.cells #[.int .i64 0,.int .i64 0,.int .i64 0] 131))) ((HF5.o.trans hF6.om).trans (Fr.of_below _ (za0 W6 _))) rfl rfl);unfold zI9;clear hR6 hF6;go_wp2_with fail
      exact HV.o
     |inr p=>
      obtain⟨⟨kd6,ta6,tb6⟩,l2⟩:=p;rw[htk]at HT;simp only at HT;have HTK:Hq (ze4 s.size 6 (ze7 ob) l1= .inr ((kd6,ta6,tb6),l2)):=hq (by rw[HEN.o];exact htk);have HTL:=hq (zh1 htk);clear htk;go_wp2_with fail
      refine HT.o.mono ?_;rintro e W6 ⟨rfl,_,⟨ts6,o6,cap6,hR6,hts6⟩,hF6⟩;have hl5:r4.nv.length<r5.nv.length:=by
       have h1:=HX.o.ln;rw[←HNS5.o,RS.ns_len,RS.ns_len]at h1;exact h1
      have hkl:=hR4.o.kl k hk4;have hnk:r5.nv[k].n=r4.nv[k].n:=by
       have h1:=HX.o.at_ k (by rw[RS.ns_len];exact hk4);rw[←HNS5.o,RS.ns_at _ (Nat.lt_trans hk4 hl5),RS.ns_at _ hk4]at h1;exact Option.some.inj h1
      obtain⟨r6,hk6,HR7,HF7,HB7,HJ7,HNS6,hkl1,hkl2,hts7⟩: ∃r6:RS,∃hk6:k<r6.nv.length,Hq (Rd w0 g s r6 (W6.alloc (.cells #[.int .i64 (kd6:Int),.int .i64 (ta6:Int),.int .i64 (tb6:Int)] 131)))/\Hq (Fr (OM g M r) (OM g M r6) W (W6.alloc (.cells #[.int .i64 (kd6:Int),.int .i64 (ta6:Int),.int .i64 (tb6:Int)] 131)))/\
       Hq (Lo (r6.own g) (W6.alloc (.cells #[.int .i64 (kd6:Int),.int .i64 (ta6:Int),.int .i64 (tb6:Int)] 131)) W6.heap.size 131 #[.int .i64 (kd6:Int),.int .i64 (ta6:Int),.int .i64 (tb6:Int)])/\Hq (J r6 had' (W6.alloc (.cells #[.int .i64 (kd6:Int),.int .i64 (ta6:Int),.int .i64 (tb6:Int)] 131)))/\Hq (r6.ns=ns1)/\r6.nv[k].n.kids.length<r6.nv.length/\r6.nv[k].n.pcs.length<r6.nv.length/\Hq (nbl r6.ts=l2):=
       ⟨r5.at ts6 o6 cap6,Nat.lt_trans hk4 hl5,hq (hR6.grow (za0 W6 _)),hq ((HF5.o.trans hF6.om).trans (Fr.of_below _ (za0 W6 _))),hq (Lo.new (fun k hk=>(hR6.own_lt k hk).2) _ _),hq (HJ _ (r5.at ts6 o6 cap6) _ _ _ HJ5.o (hF6.trans (Fr.of_below _ (za0 W6 _))) (Nat.le_refl _)),HNS5,
        by show r5.nv[k].n.kids.length<r5.nv.length;rw[hnk];omega,by show r5.nv[k].n.pcs.length<r5.nv.length;rw[hnk];omega,hq hts6⟩
      clear hnk hkl hR6 hF6 hts6 HR5 HJ5 HF5 HNS5 HT hl5;obtain⟨gM,cM,hvM,_,_,hfM,hnodeM⟩:=HR7.o.node hk6;have d2:=HR7.o.cells.2.2.1;rw[hvM]at d2;have hkz6:(k:Int)<(r6.nv.length:Int):=by omega
      have m5:=hnodeM 5 (by omega);simp only[ze,List.getElem?_cons_succ,List.getElem?_cons_zero]at m5;have hKR:=HR7.o.kr k hk6;obtain⟨ka,kc,hKv⟩:=ze6 hKR;have hn4:=HR7.o.n4;rw[hKv]at m5;have HVM:=hq hvM;clear hnodeM hvM;unfold tokA;dsimp only;go_upto_region 13 with fail
      generalize hW7:W6.alloc (.cells #[.int .i64 (kd6:Int),.int .i64 (ta6:Int),.int .i64 (tb6:Int)] 131)=W7 at *;generalize W6.heap.size=b6 at *;clear hW7;have x0:=HB7.o.at_.at_ 0;have hKR2:W7.ownsRow w0.heap.size 3 1 (.slice ka r6.nv[k].n.kids.length kc) r6.nv[k].n.kids.length (kidC r6.nv[k].n.kids):=by rw[←hKv];exact hKR
      have HKV:=hq hKv;have hww:w0.heap.size<=W7.heap.size:=HR7.o.bl.size;obtain⟨i0,hi0,hz0,hz1,hz2⟩:=info_parts infoI;clear hKv hKR;go_wp2_with (at_builtin;refine wpList_append_own_at _ rfl _ _ 146 rfl w0.heap.size 3 i0 (.int .i64 0) 1 8 Tryz.underlying146 hi0 hz0 hz1 hz2 rfl (by decide) _ _ _ rfl (hKR2.alloc _) ⟨W7.heap.size,0,none⟩ 1 1 [.int .i64 (r4.nv.length:Int)] rfl rfl (ze0 _ [.int .i64 (r4.nv.length:Int)] _) (by simp[Value.oneCell']) (by unfold maxLen;omega) (by omega) (by rw[World.size_alloc];omega) ?_)
      intro v' W9 hown9 hgrow9 _ hat9;obtain⟨g9,c9,rfl⟩:=zj0 hown9;have hR8:=HR7.o.grow (za0 W7 (.cells #[.int .i64 (r4.nv.length:Int)] 3));have hgrow9':(W7.alloc (.cells #[.int .i64 (r4.nv.length:Int)] 3)).grownBy W9 r6.nv[k].k.ownBlock:=by rw[HKV.o];exact hgrow9
      have hkid:=hR8.kid hk6 HVM.o hkl1 hown9 hgrow9' (by rw[HKV.o,World.size_alloc];exact hat9);obtain⟨hm9,hf9⟩:=hR8.mid hk6 HVM.o hgrow9' (.inl rfl);have m59:=hm9 5 (by omega);simp only[ze,List.getElem?_cons_succ,List.getElem?_cons_zero]at m59;rw[HKV.o]at m59;have hfr10:=(Fr.of_below (r6.own g) (za0 W7 (.cells #[.int .i64 (r4.nv.length:Int)] 3))).trans hkid.2;obtain⟨r7,hk7,HR10,HF10,HB10,HJ10,HNS7,hkl7,hts7',HVM7⟩: ∃r7:RS,∃hk7:k<r7.nv.length,Hq (Rd w0 g s r7 (W9.setCell ⟨gM,k*7+5,none⟩ (.slice (some ⟨g9,0,none⟩) (r6.nv[k].n.kids.length+1) c9)))/\Hq (Fr (OM g M r) (OM g M r7) W (W9.setCell ⟨gM,k*7+5,none⟩ (.slice (some ⟨g9,0,none⟩) (r6.nv[k].n.kids.length+1) c9)))/\Hq (Lo (r7.own g) (W9.setCell ⟨gM,k*7+5,none⟩ (.slice (some ⟨g9,0,none⟩) (r6.nv[k].n.kids.length+1) c9)) b6 131 #[.int .i64 (kd6:Int),.int .i64 (ta6:Int),.int .i64 (tb6:Int)])/\Hq (J r7 had' (W9.setCell ⟨gM,k*7+5,none⟩ (.slice (some ⟨g9,0,none⟩) (r6.nv[k].n.kids.length+1) c9)))/\
       Hq (∀pc v',(r7.upd k (pcV r7.nv[k] pc v')).ns=addN r6.ns k r4.nv.length pc)/\r7.nv[k].n.pcs.length<r7.nv.length/\Hq (nbl r7.ts=l2)/\Hq (r7.vN= .slice (some ⟨gM,0,none⟩) r7.nv.length cM):=
       ⟨_,by rw[zh6];exact hk6,hq hkid.1,hq (HF7.o.trans hfr10.om),hq (HB7.o.step hfr10),hq (HJ _ _ _ _ _ HJ7.o hfr10 (Nat.le_of_eq (zh6 ..).symm)),hq (fun pc v'=>add_ns2 r6 hk6 _ _ _ pc v'),by rw[zN0 r6 hk6,zh6];exact hkl2,hts7,hq (by rw[zh6];exact HVM.o)⟩
      clear hkid hfr10 hgrow9 hgrow9' hat9 hown9 hm9 hR8 hKR2;go_upto_region 15 with fail
      clear m5 m59 hf9 hfM hkl1 HR7 HF7 HB7 HJ7 hts7 HVM;generalize W9.setCell ⟨gM,k*7+5,none⟩ (.slice (some ⟨g9,0,none⟩) (r6.nv[k].n.kids.length+1) c9)=W10 at *;have hb12:=(za0 W10 (.cells #[.int .i64 (fr:Int),.int .i64 (ta6:Int)] 44)).drew;have hR12:=HR10.o.grow hb12;have HBL12:=hq hb12;obtain⟨hmm,hff⟩:=HR10.o.mid hk7 HVM7.o (row:=r7.nv[k].p.ownBlock) ⟨rfl,rfl,rfl,Nat.le_refl _,fun _ _ _=>rfl⟩ (.inr rfl);have m6:=hmm 6 (by omega);simp only[ze,List.getElem?_cons_succ,List.getElem?_cons_zero]at m6;have hPR:=hR12.pr k hk7;obtain⟨pa,pcap,hPv⟩:=ze6 hPR;rw[hPv]at m6 hPR;have HPV:=hq hPv;have HR12:=hq hR12;have HPR2:=hq hPR;have x1:=HB10.o.at_.at_ 1;have m6a:=((za0 W10 (.cells #[.int .i64 (fr:Int),.int .i64 (ta6:Int)] 44)).cell (zb2 m6)).trans m6;have hn47:=HR10.o.n4;have hwx:w0.heap.size<=W10.heap.size:=HR10.o.bl.size;obtain⟨i1,hi1,hy0,hy1,hy2⟩:=info_parts infoSp;clear hmm hPv hPR hR12 hb12
      go_region_law (refine zw5 rfl (.tmp 91) (.tmp 97) 147 rfl w0.heap.size 44 i1 (.agg #[.int .i64 0,.int .i64 0]) 2 16 Tryz.underlying147 hi1 hy0 hy1 hy2 rfl (by decide) (.slice pa r7.nv[k].n.pcs.length pcap) r7.nv[k].n.pcs.length (pcC r7.nv[k].n.pcs) (by simp[Act.eval]) HPR2.o ⟨W10.heap.size,0,none⟩ 1 1 [.int .i64 (fr:Int),.int .i64 (ta6:Int)] (by simp[Act.eval]) rfl (ze0 W10 [.int .i64 (fr:Int),.int .i64 (ta6:Int)] _) (by simp[Value.oneCell']) (by unfold maxLen;omega) (by omega) (by show w0.heap.size<=(W10.alloc _).heap.size;rw[World.size_alloc];omega) ?_;intro v'' W12 hown12 hgrow12 hat12;obtain⟨g12,c12,rfl⟩:=zj0 hown12;have HG12:=hq (show World.grownBy _ W12 r7.nv[k].p.ownBlock by rw[HPV.o];exact hgrow12);have m6':=(HR12.o.mid hk7 HVM7.o HG12.o (.inr rfl)).1 6 (by omega);have hff':=(HR12.o.mid hk7 HVM7.o HG12.o (.inr rfl)).2;simp only[ze,List.getElem?_cons_succ,List.getElem?_cons_zero]at m6')
      all_goals
       have hpc:=HR12.o.piece hk7 HVM7.o hkl7 hown12 HG12.o (by rw[HPV.o];exact hat12);have hfr13:=(Fr.of_below (r7.own g) HBL12.o).trans hpc.2;have hns8:=HNS7.o (fr,ta6) (.slice (some ⟨g12,0,none⟩) (r7.nv[k].n.pcs.length+1) c12);obtain⟨r8,hk8,HR13,HF13,HB13,HJ13,HNS8,hts8,HVM8⟩: ∃r8:RS,∃hk8:k<r8.nv.length,Hq (Rd w0 g s r8 (W12.setCell ⟨gM,k*7+6,none⟩ (.slice (some ⟨g12,0,none⟩) (r7.nv[k].n.pcs.length+1) c12)))/\Hq (Fr (OM g M r) (OM g M r8) W (W12.setCell ⟨gM,k*7+6,none⟩ (.slice (some ⟨g12,0,none⟩) (r7.nv[k].n.pcs.length+1) c12)))/\Hq (Lo (r8.own g) (W12.setCell ⟨gM,k*7+6,none⟩ (.slice (some ⟨g12,0,none⟩) (r7.nv[k].n.pcs.length+1) c12)) b6 131 #[.int .i64 (kd6:Int),.int .i64 (ta6:Int),.int .i64 (tb6:Int)])/\Hq (J r8 had' (W12.setCell ⟨gM,k*7+6,none⟩ (.slice (some ⟨g12,0,none⟩) (r7.nv[k].n.pcs.length+1) c12)))/\
        Hq (r8.ns=addN ns1 k r4.ns.length (fr,ta6))/\Hq (nbl r8.ts=l2)/\Hq (r8.vN= .slice (some ⟨gM,0,none⟩) r8.nv.length cM):=
        ⟨_,by rw[zh6];exact hk7,hq hpc.1,hq (HF10.o.trans hfr13.om),hq (HB10.o.step hfr13),hq (HJ _ _ _ _ _ HJ10.o hfr13 (Nat.le_of_eq (zh6 ..).symm)),hq (by rw[hns8,HNS6.o,RS.ns_len]),hts7',hq (by rw[zh6];exact HVM7.o)⟩
       have hlts:l2.length<f:=by
        have h1:=HX.o.ts;rw[HTL.o.1,List.length_cons]at h1;omega
       clear hpc hfr13 hns8 hown12 hgrow12 hat12 HG12 m6' hff' m6 m6a x1 x0 HR12 HPR2 HPV HBL12 HR10 HF10 HB10 HJ10 HNS7 hts7' HVM7 HNS6 HTL HX;go_simp
       generalize W12.setCell ⟨gM,k*7+6,none⟩ (.slice (some ⟨g12,0,none⟩) (r7.nv[k].n.pcs.length+1) c12)=W13 at *;have x0:=HB13.o.at_.at_ 0;have x2:=HB13.o.at_.at_ 2;by_cases hke:kd6=en
       ·have hRE:Hq (R= .inr (l2,closeN (addN ns1 k r4.ns.length (fr,ta6)) k tb6)):=hq (hRR.o.trans (zH1 HKID.o HTK.o (hke.trans HEN.o.symm)));obtain⟨gM',cM',hv',_,_,hf8,hn8⟩:=HR13.o.node hk8;rw[HVM8.o]at hv';cases hv';have m2:=hn8 2 (by omega);simp only[ze,List.getElem?_cons_succ,List.getElem?_cons_zero]at m2;have hcl:=HR13.o.close hk8 HVM8.o tb6;have HV:=hq (HPR.o l2 (closeN (addN ns1 k r4.ns.length (fr,ta6)) k tb6) _ _ hRE.o hcl.1 (HF13.o.trans hcl.2.om) hts8.o ((zv1 _ hk8 tb6).trans (by rw[HNS8.o])));clear hcl hn8 HPR HPL hRE hRR HKID HTK HR13 HF13 HB13 HJ13 HVM8;subst hke;go_wp2_with fail
        exact HV.o
       ·have hkez: ¬(kd6:Int)=(en:Int):=by omega
        have hkeb:((kd6:Int)==(en:Int))=false:=beq_eq_false_iff_ne.2 hkez;have hRE:Hq (R=zk6 (za4 s.size (za3 s) d) ob s.size (za3 s) k f had' tb6 (nbl r8.ts) r8.ns):=hq ((hRR.o.trans (zA6 HKID.o HTK.o (fun h=>hke (h.trans HEN.o)))).trans (by rw[hts8.o,HNS8.o]));clear HPR HPL hRR HKID HTK;go_wp2_with fail
        go_roundg f
        case measure=>omega
        case rel=>exact⟨r8,had',tb6,rfl,hk8,by rw[hts8.o];exact hlts,HR13,HJ13,HF13,hRE⟩
end Go.Proofs.YtkafjblfjdpdaaaGreatDoor
namespace Go.Proofs.YtkafjblfjdpdaaaGreatDoor
open Go.RowKit Go.WideMaps Go.Maps
def hadD:List (Bs×Nat)->DataW Unit
 | []=> .map []
 |x::l=>(hadD l).put (.string x.1) (.lit (.int .i64 (x.2:Int)))
theorem isKeyS(x:Bs):WideAt.IsKeyLit (.string x):=by first|exact trivial|simp[WideAt.IsKeyLit]
theorem tidy_had: ∀l,Tidy (hadD l)
 | []=>tidy_empty
 |_::l=>(tidy_had l).put (isKeyS _) _
theorem has_had(x:Bs): ∀l,has (hadD l) (.string x)=decide (x∈l.map Prod.fst)
 | []=>rfl
 |y::l=>by
  unfold hadD;by_cases he:y.1=x
  ·rw[he,has_put_same (tidy_had l).isMap (isKeyS _)];simp[he]
  ·rw[has_put_other (by intro e;injection e with e;exact he e.symm),has_had x l];have: ¬x=y.1:=fun e=>he e.symm
   simp[this]
theorem strKeyedJ:Keyed Tryz.prog 9:=string_keyed Tryz.underlying9
theorem zeroIntJ(w:World):(zeroValue 3).run Tryz.prog w= .ok (.int .i64 0) w:=by kernel_rfl
theorem key_stJ {x:Bs} (h:x.length<=maxLen):keyOf Tryz.prog 9 (.string (st x))=some (.string x):=by
 have:=keyOf_string_mk Tryz.underlying9 (s:=st x) (by rw[za8];exact h);rw[zc7]at this;exact this
def HadIn(w:World)(b:Nat)(l:List (Bs×Nat)):Prop:=w.ownsMap Tryz.prog 9 (plainElem (H:=Unit) Tryz.prog 3) b l.length (hadD l)
theorem HadIn.lt {w:World} {b:Nat} {l:List (Bs×Nat)} (h:HadIn w b l):b<w.heap.size:=World.ownsMap.lt h
theorem HadIn.kept {w w':World} {b:Nat} {l:List (Bs×Nat)} {row:Option Nat} (h:HadIn w b l)(hg:w.grownBy w' row)(hne:some b≠row):HadIn w' b l:=World.ownsMap.kept h hg hne
theorem HadIn.same {w w':World} {b:Nat} {l:List (Bs×Nat)} (h:HadIn w b l)(hb:w'.heap[b]?=w.heap[b]?):HadIn w' b l:=by
 unfold HadIn World.ownsMap at h ⊢;rw[hb];exact h
theorem look_had {w:World} {b:Nat} {l:List (Bs×Nat)} {x:Bs} (h:HadIn w b l)(hx:x.length<=maxLen):
 ∃v:Int,(Instr.lookup 195 (.map (some b)) (.string (st x)) true).run Tryz.prog w= .ok (.tuple #[.int .i64 v,.bool (decide (x∈l.map Prod.fst))]) w:=by
 have hz:plainElem (H:=Unit) Tryz.prog 3 (.int .i64 0)=some (.lit (.int .i64 0),[]):=plainElem_int Tryz.underlying3 (by decide);obtain⟨v,ps,hrun,hv⟩:=World.ownsMap.look_ok h strKeyedJ Tryz.underlying195 (zeroIntJ w) hz (key_stJ hx);obtain⟨c,rfl,hc,_⟩:=plainElem_int_inv Tryz.underlying3 hv;rw[has_had]at hrun;exact⟨c,hrun⟩
theorem wf_i64J(k:Nat)(h:k<=9223372036854775807):(Lit.int .i64 (k:Int)).wf=true:=by
 have h1:IntKind.i64.min=-9223372036854775808:=by decide
 have h2:IntKind.i64.max=9223372036854775807:=by decide
 simp[Lit.wf,h1,h2];omega
theorem jencAll_len(l:List Nat):(zd l).length<=4*l.length:=by
 induction l with
 |nil=>exact Nat.le_refl _
 |cons r l ih=>
  have:=zD7 r;show(encB r++zd l).length<=_;rw[List.length_append,List.length_cons];omega
theorem zH5(s:ByteArray): ∀(f p:Nat) (acc:List Nat),acc.length<=p->p<=s.size->(zc5 s f p acc).2.2.length<=s.size
 |0,p,acc,h,hp=>Nat.le_trans h hp
 |f+1,p,acc,h,hp=>by
  unfold zc5;by_cases hps:p<s.size
  ·rw[if_pos hps];by_cases h34:byt s p=34
   ·rw[if_pos h34];exact Nat.le_trans h hp
   ·rw[if_neg h34];cases hpm:zf2 s p with
    |none=>exact Nat.le_trans h hp
    |some x=>
     obtain⟨r,n⟩:=x;have hbd:=zn3 hps hpm;refine zH5 s f (p+n) (acc++[r]) ?_ hbd.2.2.2.1;rw[List.length_append,List.length_singleton];omega
  ·rw[if_neg hps];exact Nat.le_trans h hp
theorem zN1(t:ByteArray):(zb4 t).1.length<=4*t.size:=by
 have h:(zb7 t 0).2.2.length<=t.size:=by
  unfold zb7;split
  ·rename_i h;exact zH5 t _ _ [] (Nat.zero_le _) h.1
  ·exact Nat.zero_le _
 unfold zb4;generalize zb7 t 0=x at *;have h2:=jencAll_len x.2.2;simp only;split
 ·exact Nat.zero_le _
 ·split
  ·exact Nat.zero_le _
  ·simp only;omega
end Go.Proofs.YtkafjblfjdpdaaaGreatDoor
namespace Go.Proofs.YtkafjblfjdpdaaaGreatDoor
open Go.RowKit Go.WideMaps Go.Maps
def JA(g L b3 b5:Nat)(r:RS)(_:List Bs)(W:World):Prop:=Lo (r.own g) W b3 126 #[.pointer (some ⟨g,0,none⟩)]/\Lo (r.own g) W b5 3 #[.int .i64 (L:Int)]
def ValOk(w0:World)(g:Nat)(s:ByteArray)(d L:Nat):Prop:= ∀r W (ka kb:Nat),Rd w0 g s r W->Calls Tryz.prog 113 #[.pointer (some ⟨g,0,none⟩),.int .i64 (L:Int),.agg #[.int .i64 (ka:Int),.int .i64 (kb:Int)]] W (zm0 w0 g s r d (ka,kb) W)
theorem jarr1_any {w0:World} {g:Nat} {s:ByteArray} {d L b3 b5:Nat} (hL:L<1000000)(HV:ValOk w0 g s d (L+1)) {r:RS} {had:List Bs} {W:World} (h:Rd w0 g s r W)(hj:JA g L b3 b5 r had W):
 Calls Tryz.prog 216 #[.pointer (some ⟨b3,0,none⟩),.pointer (some ⟨b5,0,none⟩)] W (zm1 w0 g s (fun _=>False) (JA g L b3 b5) false d r had W):=by
 have HC:=hq (HV r W 0 0 h);have c3:=hj.1.cell 0;have c5:=hj.2.cell 0;have HJ:=hq hj;have hLL:((L+1:Nat):Int)=(L:Int)+1:=by omega
 rw[hLL]at HC;have HP:Hq (∀(e:Ending) (W':World),zm0 w0 g s r d (0,0) W e W'->zm1 w0 g s (fun _=>False) (JA g L b3 b5) false d r had W e W'):=hq (fun e W' hp=>by
  unfold zm0 at hp;unfold zm1 kidM;rw[if_neg (by simp)];cases hv:za4 s.size (za3 s) d (nbl r.ts) (0,0) r.ns with
  |inl p=>
   rw[hv]at hp;obtain⟨h1,r',h2,h3,h4,h5⟩:=hp;exact⟨h1,r',h2,h3.om,h4,h5⟩
  |inr p=>
   rw[hv]at hp;obtain⟨h1,r',h2,h3,h4,h5⟩:=hp;exact⟨h1,r',h2,⟨HJ.o.1.step h3,HJ.o.2.step h3⟩,h3.om,h4,h5⟩)
 have HV2:Hq (∀(e:Ending) (W':World),zm0 w0 g s r d (0,0) W e W'-> ∃(q:Int) (b:Bool),e= .returned (.tuple #[.int .i64 q,.bool b])):=hq (fun e W' hp=>by
  unfold zm0 at hp;cases hv:za4 s.size (za3 s) d (nbl r.ts) (0,0) r.ns with
  |inl p=>rw[hv]at hp;obtain⟨⟨q,h1⟩,_⟩:=hp;exact⟨q,false,h1⟩
  |inr p=>rw[hv]at hp;obtain⟨h1,_⟩:=hp;exact⟨_,true,h1⟩)
 generalize zm0 w0 g s r d (0,0) W=VP at *;generalize zm1 w0 g s (fun _=>False) (JA g L b3 b5) false d r had W=PP at *;have hw1:wrap64 ((L:Int)+1)=(L:Int)+1:=by unfold wrap64;omega
 clear h hj HJ HV;go_enter Tryz.func216,Tryz.ntmps216
 go_wp2_with fail
 refine HC.o.mono ?_;rintro e W2 hp;obtain⟨q,b,rfl⟩:=HV2.o _ _ hp;have HF:=hq (HP.o _ _ hp);clear hp HC;go_wp2_with fail
 exact HF.o
theorem jarray_any {w0:World} {g:Nat} {s:ByteArray} {d L:Nat} (hL:L<1000000)(HV:ValOk w0 g s d (L+1)) {r:RS} {W:World} (h:Rd w0 g s r W) {k:Nat} (hk:k<r.nv.length):
 Calls Tryz.prog 191 #[.pointer (some ⟨g,0,none⟩),.int .i64 (k:Int),.int .i64 (L:Int)] W (fun e W'=>zg w0 g s (fun _=>False) false d r k W e W'):=by
 have hb1:=za0 W (.cells #[.pointer (some ⟨g,0,none⟩)] 126);have hb2:=za0 (W.alloc (.cells #[.pointer (some ⟨g,0,none⟩)] 126)) (.cells #[.int .i64 (L:Int)] 3);have hR1:=h.grow hb1;have hL1:Lo (r.own g) (W.alloc (.cells #[.pointer (some ⟨g,0,none⟩)] 126)) W.heap.size 126 #[.pointer (some ⟨g,0,none⟩)]:=Lo.new (fun k hk=>(h.own_lt k hk).2) _ _;have hR2:=hR1.grow hb2;have hL2:Lo (r.own g) ((W.alloc (.cells #[.pointer (some ⟨g,0,none⟩)] 126)).alloc (.cells #[.int .i64 (L:Int)] 3)) (W.heap.size+1) 3 #[.int .i64 (L:Int)]:=by
  have:=Lo.new (o:=r.own g) (W:=W.alloc (.cells #[.pointer (some ⟨g,0,none⟩)] 126)) (fun k hk=>(hR1.own_lt k hk).2) 3 #[.int .i64 (L:Int)];rw[World.size_alloc]at this;exact this
 have HC:=hq (jlist_any (M:=fun _=>False) (J:=JA g L W.heap.size (W.heap.size+1)) (ob:=false) (d:=d) (enter_arr _) (fun r had W h hj=>jarr1_any hL HV h hj) (fun r r' had W W' hj hf _=>⟨hj.1.step hf,hj.2.step hf⟩) hR2 ⟨hL1.below hb2,hL2⟩ hk);have HFR:=hq ((Fr.of_below (OM g (fun _=>False) r) hb1).trans (Fr.of_below _ hb2));have c3:=(hL1.below hb2).cell 0;clear hR1 hR2 hL1 hL2 hb1 hb2 h;have HP:Hq (∀(e:Ending) (W':World),zg w0 g s (fun _=>False) false d r k ((W.alloc (.cells #[.pointer (some ⟨g,0,none⟩)] 126)).alloc (.cells #[.int .i64 (L:Int)] 3)) e W'-> ∃b:Bool,e= .returned (.bool b)/\zg w0 g s (fun _=>False) false d r k W e W'):=hq (fun e W' hp=>by
  unfold zg at hp ⊢;cases hv:zh8 (za4 s.size (za3 s) d) false s.size (za3 s) k (nbl r.ts) r.ns with
  |inl p=>
   rw[hv]at hp;obtain⟨h1,r',h2,h3,h4,h5⟩:=hp;exact⟨false,h1,h1,r',h2,HFR.o.trans h3,h4,h5⟩
  |inr p=>
   rw[hv]at hp;obtain⟨h1,r',h2,h3,h4,h5⟩:=hp;exact⟨true,h1,h1,r',h2,HFR.o.trans h3,h4,h5⟩)
 have hmf: ∀fn first cap w,(Instr.makeFunc fn first cap).run Tryz.prog w= .ok (.func fn first cap) w:=fun _ _ _ _=>rfl
 generalize zg w0 g s (fun _=>False) false d r k ((W.alloc (.cells #[.pointer (some ⟨g,0,none⟩)] 126)).alloc (.cells #[.int .i64 (L:Int)] 3))=LP at *;generalize zg w0 g s (fun _=>False) false d r k W=PP at *;have hje:(ze7 false:Int)=5:=rfl;rw[show ((ze7 false:Nat):Int)=5 from rfl]at HC;clear HFR hje;go_enter Tryz.func191,Tryz.ntmps191
 go_wp2_with fail
 refine HC.o.mono ?_;rintro e W2 hp;obtain⟨b,rfl,hpp⟩:=HP.o _ _ hp;have HF:=hq hpp;clear hp hpp HC;go_wp2_with fail
 exact HF.o
end Go.Proofs.YtkafjblfjdpdaaaGreatDoor
namespace Go.Proofs.YtkafjblfjdpdaaaGreatDoor
open Go.RowKit Go.WideMaps Go.Maps
theorem Rd.farG {w0 W W':World} {g:Nat} {s:ByteArray} {r:RS} (h:Rd w0 g s r W) {b:Nat} (hg:W.grownBy W' (some b))(hp: ¬r.own g b)(hb:w0.heap.size<=b):Rd w0 g s r W':=by
 refine⟨ze8 h.blk hg (fun b' e e2=>by cases e;exact hp (.inl e2)),h.tk,h.tl,h.tm,?_,?_,?_,h.ak,h.ap,h.bl.grown hg h.bl.size (fun k e=>by cases e;exact hb),h.gl,h.n4,h.kl⟩
 ·exact za5 h.nd hg fun b e e2=>by cases e;exact hp (.inr (.inl e2))
 ·exact fun i hi=>za5 (h.kr i hi) hg fun b e e2=>by cases e;exact hp (.inr (.inr ⟨i,hi,.inl e2⟩))
 ·exact fun i hi=>za5 (h.pr i hi) hg fun b e e2=>by cases e;exact hp (.inr (.inr ⟨i,hi,.inr e2⟩))
theorem Lo.farG {o:Nat->Prop} {W W':World} {b m:Nat} {t:TypeId} {cs:Array Value} (h:Lo o W b t cs)(hg:W.grownBy W' (some m))(hm: ∃es c,W.heap[m]?=some (.map es c)):Lo o W' b t cs:=by
 refine⟨(hg.block b h.at_.lt fun e=> ?_).trans h.at_,h.no⟩;obtain⟨es,c,hh⟩:=hm;rw[←Option.some.inj e]at hh;rw[show W.heap[b]?=_ from h.at_]at hh;cases hh
theorem HadIn.heap {w:World} {b:Nat} {l:List (Bs×Nat)} (h:HadIn w b l): ∃es c,w.heap[b]?=some (.map es c):=by
 obtain⟨es,c,hb,_⟩:=h;exact⟨es,c,hb⟩
theorem read_four {W9 wr W:World} {p0 p1 p2 p3:Addr} {v0 v1 v2 v3:Value} (hT:Below wr.heap.size wr W/\W.cell? p0=some v0/\W.cell? p1=some v1/\W.cell? p2=some v2/\W.cell? p3=some v3)(hb:Below W.heap.size W W9):Below wr.heap.size wr W9/\W9.cell? p0=some v0/\W9.cell? p1=some v1/\W9.cell? p2=some v2/\W9.cell? p3=some v3:=
 ⟨za hT.1 hb,(hb.cell (zb2 hT.2.1)).trans hT.2.1,(hb.cell (zb2 hT.2.2.1)).trans hT.2.2.1,(hb.cell (zb2 hT.2.2.2.1)).trans hT.2.2.2.1,(hb.cell (zb2 hT.2.2.2.2)).trans hT.2.2.2.2⟩
structure JO(w0:World)(g L mb b3 b7 b5 e:Nat)(r:RS)(had:List Bs)(W:World):Prop where
 l3:Lo (r.own g) W b3 126 #[.pointer (some ⟨g,0,none⟩)]
 l7:Lo (r.own g) W b7 195 #[.map (some mb)]
 l5:Lo (r.own g) W b5 3 #[.int .i64 (L:Int)]
 no: ¬r.own g mb
 bs:w0.heap.size<=mb
 had: ∃l:List (Bs×Nat),HadIn W mb l/\(∀x,x∈had↔x∈l.map Prod.fst)/\l.length<=r.nv.length+e
theorem JO.step {w0:World} {g L mb b3 b7 b5 e e':Nat} {r r':RS} {had:List Bs} {W W':World} (h:JO w0 g L mb b3 b7 b5 e r had W)(f:Fr (r.own g) (r'.own g) W W')(hn:r.nv.length+e<=r'.nv.length+e'):JO w0 g L mb b3 b7 b5 e' r' had W':=by
 obtain⟨l,h1,h2,h3⟩:=h.had;exact⟨h.l3.step f,h.l7.step f,h.l5.step f,fun ho=>(f.own mb ho).elim h.no fun h'=>by have:=h1.lt;omega,h.bs,l,h1.same (f.block mb h1.lt h.no),h2,Nat.le_trans h3 hn⟩
section
variable {v:List Tok->Nat×Nat->List JN->JRes} {z:Nat} {tx:Nat->Nat->Bs} {had:List Bs} {l:List Tok} {ns:List JN}
theorem kidM_key {e:JErr} (h:ze4 z 8 8 l= .inl e):kidM v true z tx had l ns= .inl e:=by unfold kidM;rw[if_pos rfl,h]
theorem kidM_twice {t:Tok} {r:List Tok} (h:ze4 z 8 8 l= .inr (t,r))(hm:tx t.2.1 t.2.2∈had):kidM v true z tx had l ns= .inl (t.2.1,7):=by
 unfold kidM;rw[if_pos rfl,h];simp only;rw[if_pos hm]
theorem kidM_colon {t:Tok} {r:List Tok} {e:JErr} (h:ze4 z 8 8 l= .inr (t,r))(hm:tx t.2.1 t.2.2∉had)(h2:ze4 z 7 7 r= .inl e):kidM v true z tx had l ns= .inl e:=by
 unfold kidM;rw[if_pos rfl,h];simp only;rw[if_neg hm,h2]
theorem kidM_val {t t2:Tok} {r r2:List Tok} (h:ze4 z 8 8 l= .inr (t,r))(hm:tx t.2.1 t.2.2∉had)(h2:ze4 z 7 7 r= .inr (t2,r2)):kidM v true z tx had l ns=match v r2 (t.2.1,t.2.2) ns with
 | .inl e=> .inl e
 | .inr (l',ns')=> .inr (had++[tx t.2.1 t.2.2],l',ns'):=by
 unfold kidM;rw[if_pos rfl,h];simp only;rw[if_neg hm,h2];rfl
end
theorem jobj1_any {w0:World} {g:Nat} {s:ByteArray} {d L mb b3 b7 b5:Nat} (hL:L<1000000)(hs:s.size<=65536)(hT:tabs w0)(HV:ValOk w0 g s d (L+1)) {r:RS} {had:List Bs} {W:World} (h:Rd w0 g s r W)(hj:JO w0 g L mb b3 b7 b5 0 r had W):
 Calls Tryz.prog 217 #[.pointer (some ⟨b3,0,none⟩),.pointer (some ⟨b7,0,none⟩),.pointer (some ⟨b5,0,none⟩)] W (zm1 w0 g s (fun k=>k=mb) (JO w0 g L mb b3 b7 b5 0) true d r had W):=by
 have HPL:Hq (∀wh er W' r',kidM (za4 s.size (za3 s) d) true s.size (za3 s) had (nbl r.ts) r.ns= .inl (wh,er)->Rd w0 g s r' W'->Fr (OM g (fun k=>k=mb) r) (OM g (fun k=>k=mb) r') W W'->r'.wh=(wh:Int)->r'.er=er-> ∀q:Int,zm1 w0 g s (fun k=>k=mb) (JO w0 g L mb b3 b7 b5 0) true d r had W (.returned (.tuple #[.int .i64 q,.bool false])) W'):=hq (fun wh er W' r' h1 h2 h3 h4 h5 q=>by unfold zm1;rw[h1];exact⟨⟨q,rfl⟩,r',h2,h3,h4,h5⟩);have HPR:Hq (∀had' l ns W' r',kidM (za4 s.size (za3 s) d) true s.size (za3 s) had (nbl r.ts) r.ns= .inr (had',l,ns)->Rd w0 g s r' W'->JO w0 g L mb b3 b7 b5 0 r' had' W'->Fr (OM g (fun k=>k=mb) r) (OM g (fun k=>k=mb) r') W W'->nbl r'.ts=l->r'.ns=ns->zm1 w0 g s (fun k=>k=mb) (JO w0 g L mb b3 b7 b5 0) true d r had W (.returned (.tuple #[.int .i64 (r.nv.length:Int),.bool true])) W'):=hq (fun had' l ns W' r' h1 h2 hj h3 h4 h5=>by unfold zm1;rw[h1];exact⟨rfl,r',h2,hj,h3,h4,h5⟩);generalize hPP:zm1 w0 g s (fun k=>k=mb) (JO w0 g L mb b3 b7 b5 0) true d r had W=PP at *;have HT:=hq (zy7 h 8 8);unfold zm3 at HT;have HJ:=hq hj;have HR:=hq h;have c3:=hj.l3.cell 0;have hw1:wrap64 ((L:Int)+1)=(L:Int)+1:=by unfold wrap64;omega
 clear hPP h hj;cases htk:ze4 s.size 8 8 (nbl r.ts) with
 |inl e=>
  obtain⟨wh,er⟩:=e;rw[htk]at HT;simp only at HT;have HK:=hq (kidM_key (v:=za4 s.size (za3 s) d) (tx:=za3 s) (had:=had) (ns:=r.ns) htk);clear htk HPR;go_enter Tryz.func217,Tryz.ntmps217
  go_wp2_with fail
  refine HT.o.mono ?_;rintro e W2 ⟨rfl,⟨ts2,o2,cap2,hR2⟩,hF2⟩;have HV2:=hq (HPL.o wh er _ _ HK.o (hR2.grow (za0 W2 (.cells #[.int .i64 0,.int .i64 0,.int .i64 0] 131))) (hF2.om.trans (Fr.of_below _ (za0 W2 _))) rfl rfl 0);unfold zI9;clear hR2 hF2 HT;go_wp2_with fail
  first|exact HV2.o|(go_ret2;exact HV2.o)
 |inr p=>
  obtain⟨⟨kd,ta,tb⟩,l2⟩:=p;rw[htk]at HT;simp only at HT;have HTK:=hq htk;clear htk;go_enter Tryz.func217,Tryz.ntmps217
  go_wp2_with fail
  refine HT.o.mono ?_;rintro e W2 ⟨rfl,⟨hab,hbs⟩,⟨ts2,o2,cap2,hR2,hts2⟩,hF2⟩;have HT2:=hq (zh1 HTK.o);obtain⟨r2,HR3,HJ3,HF3,HB3,HNS3,hts3,hnl⟩: ∃r2:RS,Hq (Rd w0 g s r2 (W2.alloc (.cells #[.int .i64 (kd:Int),.int .i64 (ta:Int),.int .i64 (tb:Int)] 131)))/\Hq (JO w0 g L mb b3 b7 b5 0 r2 had (W2.alloc (.cells #[.int .i64 (kd:Int),.int .i64 (ta:Int),.int .i64 (tb:Int)] 131)))/\Hq (Fr (OM g (fun k=>k=mb) r) (OM g (fun k=>k=mb) r2) W (W2.alloc (.cells #[.int .i64 (kd:Int),.int .i64 (ta:Int),.int .i64 (tb:Int)] 131)))/\
   Hq (Lo (r2.own g) (W2.alloc (.cells #[.int .i64 (kd:Int),.int .i64 (ta:Int),.int .i64 (tb:Int)] 131)) W2.heap.size 131 #[.int .i64 (kd:Int),.int .i64 (ta:Int),.int .i64 (tb:Int)])/\Hq (r2.ns=r.ns)/\Hq (nbl r2.ts=l2)/\Hq (r2.nv.length=r.nv.length):=
   ⟨r.at ts2 o2 cap2,hq (hR2.grow (za0 W2 _)),hq ((HJ.o.step (r':=r.at ts2 o2 cap2) hF2 (Nat.le_refl _)).step (Fr.of_below _ (za0 W2 _)) (Nat.le_refl _)),hq (hF2.om.trans (Fr.of_below _ (za0 W2 _))),hq (Lo.new (fun k hk=>(hR2.own_lt k hk).2) _ _),hq rfl,hq hts2,hq rfl⟩
  unfold tokA;dsimp only;clear hR2 hts2 hF2 HT HR HJ c3;go_upto_region 4 with fail
  generalize hW3:W2.alloc (.cells #[.int .i64 (kd:Int),.int .i64 (ta:Int),.int .i64 (tb:Int)] 131)=W3 at *;generalize W2.heap.size=bx at *;clear hW3;have c3:=HJ3.o.l3.cell 0;have c0:=HR3.o.cells.1;have x1:=HB3.o.cell 1;have x2:=HB3.o.cell 2;have hz1:(0:Int)<=(ta:Int):=by omega
  have hz2:(ta:Int)<=(tb:Int):=by omega
  have hz3:(tb:Int)<=(s.size:Int):=by omega
  have HU:=hq (fun WW (hb:Below W3.heap.size W3 WW)=>zr (s.extract ta tb) WW (zi5 (zi5 hT HR3.o.bl) hb) (by rw[ByteArray.size_extract];omega));unfold zt8 at HU;have HNM:Hq (za3 s ta tb=(zb4 (s.extract ta tb)).1):=hq rfl;have HNL:=hq (zN1 (s.extract ta tb));generalize zb4 (s.extract ta tb)=U at *;obtain⟨nm,u1,u2⟩:=U;simp only at HU HNM HNL;have hnmz:nm.length<=maxLen:=by
   have:=HNL.o;rw[ByteArray.size_extract]at this;unfold maxLen;omega
  have hcl:=And.intro (Below.refl W3.heap.size W3).drew (And.intro c3 (And.intro c0 (And.intro x1 x2)))
  go_region_held3 (fun W=>Below W3.heap.size W3 W/\W.cell? ⟨b3,0,none⟩=some (.pointer (some ⟨g,0,none⟩))/\W.cell? ⟨g,0,none⟩=some (.string s)/\W.cell? ⟨bx,1,none⟩=some (.int .i64 (ta:Int))/\W.cell? ⟨bx,2,none⟩=some (.int .i64 (tb:Int)))
   (first|exact ⟨(Below.refl _ _).drew,c3,c0,x1,x2⟩|exact hT2)
   ((go_at_call 68;refine(HU.o _ (And.left (by assumption))).mono ?_;rintro e' w9 ⟨rfl,hb9⟩;have hT2:Below W3.heap.size W3 w9/\w9.cell? ⟨b3,0,none⟩=some (.pointer (some ⟨g,0,none⟩))/\w9.cell? ⟨g,0,none⟩=some (.string s)/\w9.cell? ⟨bx,1,none⟩=some (.int .i64 (ta:Int))/\w9.cell? ⟨bx,2,none⟩=some (.int .i64 (tb:Int)):=read_four (by assumption) hb9))
  have HR9:=hq (HR3.o.grow hT2.1);have HJ9:=hq (HJ3.o.step (e':=0) (r':=r2) (Fr.of_below _ hT2.1) (Nat.le_refl _));have HB9:=hq (HB3.o.below hT2.1);have HF9:=hq (HF3.o.trans (Fr.of_below _ hT2.1));clear hT2 hcl c3 c0 x1 x2 HU HR3 HJ3 HB3 HF3 hz1 hz2 hz3;obtain⟨l,hin,hiff,hll⟩:=HJ9.o.had;obtain⟨lv,hlk⟩:=look_had hin hnmz;have c3:=HJ9.o.l3.cell 0;have c7:=HJ9.o.l7.cell 0;have x1:=HB9.o.cell 1;have HIFF:=hq hiff;by_cases hm:nm∈had
  ·rw[decide_eq_true ((hiff nm).1 hm)]at hlk;have HK:Hq (kidM (za4 s.size (za3 s) d) true s.size (za3 s) had (nbl r.ts) r.ns= .inl (ta,7)):=hq (kidM_twice HTK.o (by rw[HNM.o];exact hm));have HC:=hq (zt2 HR9.o 7 (ta:Int));clear hiff hin hm HPR;go_wp2_with fail
   refine HC.o.mono ?_;rintro e W10 ⟨rfl,hR10,hF10⟩;have HV2:=hq (HPL.o ta 7 W10 _ HK.o hR10 (HF9.o.trans hF10.om) rfl rfl 0);clear hR10 hF10;go_wp2_with fail
   first|exact HV2.o|(go_ret2;exact HV2.o)
  ·rw[decide_eq_false (fun h=>hm ((hiff nm).2 h))]at hlk;have HMM:=hq hm;have hkey:=key_stJ hnmz;have hwf:=wf_i64J ta (by omega);have hn4:=HR9.o.n4;unfold HadIn at hin;clear hiff hm;go_wp2_with (at_mapUpdate;refine wpList_mapUpdate_own _ rfl _ _ _ 195 rfl 9 3 strKeyedJ Tryz.underlying195 _ mb l.length _ rfl hin (by unfold maxLen;omega) _ _ _ rfl rfl hkey _ [] (plainElem_int Tryz.underlying3 hwf) ?_)
   intro W10 hown10 hgrow10;have hmap:=HadIn.heap (l:=l) (b:=mb) hin;have HR10:=hq (HR9.o.farG hgrow10 HJ9.o.no HJ9.o.bs);have HB10:=hq (HB9.o.farG hgrow10 hmap);have HF10:=hq (HF9.o.grown hgrow10 (fun k e=> .inr (Option.some.inj e).symm) (fun k h=> .inl h));have HJ10:Hq (JO w0 g L mb b3 b7 b5 1 r2 (had++[nm]) W10):=hq ⟨HJ9.o.l3.farG hgrow10 hmap,HJ9.o.l7.farG hgrow10 hmap,HJ9.o.l5.farG hgrow10 hmap,HJ9.o.no,HJ9.o.bs,(nm,ta)::l,hown10,fun x=>by
    rw[List.mem_append,List.mem_singleton,List.map_cons,List.mem_cons,HIFF.o x];exact Or.comm,by rw[List.length_cons];omega⟩
   clear hmap hgrow10 hown10 hin hlk c3 c7 x1 HJ9 HB9 HF9 HR9 HIFF;have HT:=hq (zy7 HR10.o 7 7);unfold zm3 at HT;rw[hts3.o]at HT;have c3:=HJ10.o.l3.cell 0;cases htk:ze4 s.size 7 7 l2 with
   |inl e=>
    obtain⟨wh,er⟩:=e;rw[htk]at HT;simp only at HT;have HK:Hq (kidM (za4 s.size (za3 s) d) true s.size (za3 s) had (nbl r.ts) r.ns= .inl (wh,er)):=hq (kidM_colon HTK.o (by rw[HNM.o];exact HMM.o) htk);clear htk HPR;go_wp2_with fail
    refine HT.o.mono ?_;rintro e W11 ⟨rfl,⟨ts2,o2,cap2,hR11⟩,hF11⟩;have HV2:=hq (HPL.o wh er _ _ HK.o (hR11.grow (za0 W11 (.cells #[.int .i64 0,.int .i64 0,.int .i64 0] 131))) ((HF10.o.trans hF11.om).trans (Fr.of_below _ (za0 W11 _))) rfl rfl 0);unfold zI9;clear hR11 hF11 HT;go_wp2_with fail
    first|exact HV2.o|(go_ret2;exact HV2.o)
   |inr p=>
    obtain⟨⟨kd4,ta4,tb4⟩,l4⟩:=p;rw[htk]at HT;simp only at HT;have HK:Hq (kidM (za4 s.size (za3 s) d) true s.size (za3 s) had (nbl r.ts) r.ns=match za4 s.size (za3 s) d l4 (ta,tb) r.ns with
     | .inl e=> .inl e
     | .inr (l',ns')=> .inr (had++[nm],l',ns')):=hq (by
     rw[kidM_val HTK.o (by rw[HNM.o];exact HMM.o) htk];simp only[HNM.o])
    clear htk;go_wp2_with fail
    refine HT.o.mono ?_;rintro e W11 ⟨rfl,_,⟨ts4,o4,cap4,hR11,hts4⟩,hF11⟩;obtain⟨r4,HR12,HJ12,HF12,HB12,HNS4,hts5,hnl4⟩: ∃r4:RS,Hq (Rd w0 g s r4 (W11.alloc (.cells #[.int .i64 (kd4:Int),.int .i64 (ta4:Int),.int .i64 (tb4:Int)] 131)))/\Hq (JO w0 g L mb b3 b7 b5 1 r4 (had++[nm]) (W11.alloc (.cells #[.int .i64 (kd4:Int),.int .i64 (ta4:Int),.int .i64 (tb4:Int)] 131)))/\Hq (Fr (OM g (fun k=>k=mb) r) (OM g (fun k=>k=mb) r4) W (W11.alloc (.cells #[.int .i64 (kd4:Int),.int .i64 (ta4:Int),.int .i64 (tb4:Int)] 131)))/\
     Hq (Lo (r4.own g) (W11.alloc (.cells #[.int .i64 (kd4:Int),.int .i64 (ta4:Int),.int .i64 (tb4:Int)] 131)) bx 131 #[.int .i64 (kd:Int),.int .i64 (ta:Int),.int .i64 (tb:Int)])/\Hq (r4.ns=r.ns)/\Hq (nbl r4.ts=l4)/\Hq (r4.nv.length=r.nv.length):=
     ⟨r2.at ts4 o4 cap4,hq (hR11.grow (za0 W11 _)),hq ((HJ10.o.step (r':=r2.at ts4 o4 cap4) (e':=1) hF11 (Nat.le_refl _)).step (Fr.of_below _ (za0 W11 _)) (Nat.le_refl _)),hq ((HF10.o.trans hF11.om).trans (Fr.of_below _ (za0 W11 _))),hq ((HB10.o.step hF11).step (Fr.of_below _ (za0 W11 _))),HNS3,hq hts4,hnl⟩
    unfold tokA;dsimp only;clear hR11 hts4 hF11 HT HR10 HJ10 HF10 HB10 c3;have c3:=HJ12.o.l3.cell 0;have c5:=HJ12.o.l5.cell 0;have x1:=HB12.o.cell 1;have x2:=HB12.o.cell 2;have HC:=hq (HV r4 _ ta tb HR12.o);have hLL:((L+1:Nat):Int)=(L:Int)+1:=by omega
    rw[hLL]at HC;unfold zm0 at HC;rw[hts5.o,HNS4.o,hnl4.o]at HC;cases hvv:za4 s.size (za3 s) d l4 (ta,tb) r.ns with
    |inl e=>
     obtain⟨wh,er⟩:=e;rw[hvv]at HC HK;simp only at HC HK;clear hvv HPR;go_wp2_with fail
     refine HC.o.mono ?_;rintro e W13 ⟨⟨q,rfl⟩,r5,hR13,hF13,hwh,her⟩;have HV2:=hq (HPL.o wh er _ _ HK.o hR13 (HF12.o.trans hF13.om) hwh her q);clear hR13 hF13 hwh her HC;go_wp2_with fail
     first|exact HV2.o|(go_ret2;exact HV2.o)
    |inr p=>
     obtain⟨l',ns'⟩:=p;have HX:=hq (zg0 _ _ _ _ _ _ _ _ hvv);rw[hvv]at HC HK;simp only at HC HK;clear hvv HPL;go_wp2_with fail
     refine HC.o.mono ?_;rintro e W13 ⟨rfl,r5,hR13,hF13,hts13,hns13⟩;have hl13:r4.nv.length+1<=r5.nv.length:=by
      have h1:=HX.o.ln;rw[←hns13,RS.ns_len,RS.ns_len]at h1;have h2:=hnl4.o;omega
     have HV2:=hq (HPR.o (had++[nm]) l' ns' _ _ HK.o hR13 (HJ12.o.step (e':=0) hF13 hl13) (HF12.o.trans hF13.om) hts13 hns13);clear hR13 hF13 hts13 hns13 hl13 HC;go_wp2_with fail
     first|exact HV2.o|(go_ret2;exact HV2.o)
end Go.Proofs.YtkafjblfjdpdaaaGreatDoor
namespace Go.Proofs.YtkafjblfjdpdaaaGreatDoor
open Go.RowKit Go.WideMaps Go.Maps
def zl4(w0:World)(g:Nat)(s:ByteArray)(ob:Bool)(d:Nat)(r:RS)(k:Nat)(W:World)(e:Ending)(W':World):Prop:=
 match zh8 (za4 s.size (za3 s) d) ob s.size (za3 s) k (nbl r.ts) r.ns with
 | .inl (wh,er)=>e= .returned (.bool false)/\ ∃r',Rd w0 g s r' W'/\Fr (r.own g) (r'.own g) W W'/\r'.wh=(wh:Int)/\r'.er=er
 | .inr (l,ns)=>e= .returned (.bool true)/\ ∃r',Rd w0 g s r' W'/\Fr (r.own g) (r'.own g) W W'/\nbl r'.ts=l/\r'.ns=ns
theorem Fr.shrink {g:Nat} {M:Nat->Prop} {r r':RS} {W W1 W':World} (h:Fr (OM g M r) (OM g M r') W1 W')(hb:Below W.heap.size W W1)(hM: ∀k,M k->W.heap.size<=k):Fr (r.own g) (r'.own g) W W':=
 ⟨h.os.trans hb.os,h.tape.trans hb.tape,h.output.trans hb.output,Nat.le_trans hb.size h.size,fun k hk hn=>(h.block k (Nat.lt_of_lt_of_le hk hb.size) fun ho=>ho.elim hn fun hm=>by have:=hM k hm;omega).trans (hb.block k hk),
  fun k hk=>(h.own k (.inl hk)).elim (fun ho=>ho.imp id (hM k)) fun h'=> .inr (Nat.le_trans hb.size h')⟩
theorem rest_of {w0:World} {g:Nat} {s:ByteArray} {M:Nat->Prop} {ob:Bool} {d:Nat} {r:RS} {k:Nat} {W W1 W':World} {e:Ending} (h:zg w0 g s M ob d r k W1 e W')(hb:Below W.heap.size W W1)(hM: ∀k,M k->W.heap.size<=k):(∃b:Bool,e= .returned (.bool b))/\zl4 w0 g s ob d r k W e W':=by
 unfold zg at h;unfold zl4;cases hv:zh8 (za4 s.size (za3 s) d) ob s.size (za3 s) k (nbl r.ts) r.ns with
 |inl p=>
  rw[hv]at h;obtain⟨h1,r',h2,h3,h4,h5⟩:=h;exact⟨⟨false,h1⟩,h1,r',h2,h3.shrink hb hM,h4,h5⟩
 |inr p=>
  rw[hv]at h;obtain⟨h1,r',h2,h3,h4,h5⟩:=h;exact⟨⟨true,h1⟩,h1,r',h2,h3.shrink hb hM,h4,h5⟩
theorem jobject_any {w0:World} {g:Nat} {s:ByteArray} {d L:Nat} (hL:L<1000000)(hs:s.size<=65536)(hT:tabs w0)(HV:ValOk w0 g s d (L+1)) {r:RS} {W:World} (h:Rd w0 g s r W) {k:Nat} (hk:k<r.nv.length):
 Calls Tryz.prog 192 #[.pointer (some ⟨g,0,none⟩),.int .i64 (k:Int),.int .i64 (L:Int)] W (fun e W'=>(∃b:Bool,e= .returned (.bool b))/\zl4 w0 g s true d r k W e W'):=by
 obtain⟨W4,hW4⟩: ∃W4,W4=(((W.alloc (.cells #[.pointer (some ⟨g,0,none⟩)] 126)).alloc (.cells #[.int .i64 (L:Int)] 3)).alloc (.map #[] 0)).alloc (.cells #[.map (some (W.heap.size+1+1))] 195):=⟨_,rfl⟩;have hb1:=za0 W (.cells #[.pointer (some ⟨g,0,none⟩)] 126);have hb2:=za0 (W.alloc (.cells #[.pointer (some ⟨g,0,none⟩)] 126)) (.cells #[.int .i64 (L:Int)] 3);have hb3:=za0 ((W.alloc (.cells #[.pointer (some ⟨g,0,none⟩)] 126)).alloc (.cells #[.int .i64 (L:Int)] 3)) (.map #[] 0);have hb4:=za0 (((W.alloc (.cells #[.pointer (some ⟨g,0,none⟩)] 126)).alloc (.cells #[.int .i64 (L:Int)] 3)).alloc (.map #[] 0)) (.cells #[.map (some (W.heap.size+1+1))] 195);have hbl:Below W.heap.size W W4:=by rw[hW4];exact za (za (za hb1 hb2) hb3) hb4
 have hol: ∀k,r.own g k->k<W.heap.size:=fun k hk=>(h.own_lt k hk).2
 have hlo: ∀(b:Nat) (t:TypeId) (cs:Array Value),W.heap.size<=b->Whole W4 b t cs->Lo (r.own g) W4 b t cs:=fun b t cs hb hw=>⟨hw,fun ho=>by have:=hol b ho;omega⟩
 have w3:Whole W4 W.heap.size 126 #[.pointer (some ⟨g,0,none⟩)]:=by rw[hW4];exact(((Whole.made W _ _).alloc _).alloc _).alloc _
 have w5:Whole W4 (W.heap.size+1) 3 #[.int .i64 (L:Int)]:=by
  have:=((Whole.made (W.alloc (.cells #[.pointer (some ⟨g,0,none⟩)] 126)) 3 #[.int .i64 (L:Int)]).alloc (.map #[] 0)).alloc (.cells #[.map (some (W.heap.size+1+1))] 195);rw[World.size_alloc]at this;rw[hW4];exact this
 have w7:Whole W4 (W.heap.size+1+1+1) 195 #[.map (some (W.heap.size+1+1))]:=by
  have:=Whole.made (((W.alloc (.cells #[.pointer (some ⟨g,0,none⟩)] 126)).alloc (.cells #[.int .i64 (L:Int)] 3)).alloc (.map #[] 0)) 195 #[.map (some (W.heap.size+1+1))];simp only[World.size_alloc]at this;rw[hW4];exact this
 have hmap:HadIn W4 (W.heap.size+1+1) []:=by
  have h0:HadIn (((W.alloc (.cells #[.pointer (some ⟨g,0,none⟩)] 126)).alloc (.cells #[.int .i64 (L:Int)] 3)).alloc (.map #[] 0)) (W.heap.size+1+1) []:=by
   have:=World.ownsMap_made (P:=Tryz.prog) (k:=9) (R:=plainElem (H:=Unit) Tryz.prog 3) ((W.alloc (.cells #[.pointer (some ⟨g,0,none⟩)] 126)).alloc (.cells #[.int .i64 (L:Int)] 3));simp only[World.size_alloc]at this;exact this
  rw[hW4];exact h0.same (hb4.block _ h0.lt)
 have hj:JO w0 g L (W.heap.size+1+1) W.heap.size (W.heap.size+1+1+1) (W.heap.size+1) 0 r [] W4:=
  ⟨hlo _ _ _ (by omega) w3,hlo _ _ _ (by omega) w7,hlo _ _ _ (by omega) w5,fun ho=>by have:=hol _ ho;omega,by have:=h.bl.size;omega,[],hmap,fun x=>by simp,Nat.zero_le _⟩
 have HC:=hq (jlist_any (M:=fun k=>k=W.heap.size+1+1) (J:=JO w0 g L (W.heap.size+1+1) W.heap.size (W.heap.size+1+1+1) (W.heap.size+1) 0) (ob:=true) (d:=d) (enter_obj _) (fun r had W h hj=>jobj1_any hL hs hT HV h hj) (fun r r' had W W' hj hf hn=>hj.step hf hn) (h.grow hbl) hj hk);have HP:Hq (∀(e:Ending) (W':World),zg w0 g s (fun k=>k=W.heap.size+1+1) true d r k W4 e W'->(∃b:Bool,e= .returned (.bool b))/\zl4 w0 g s true d r k W e W'):=hq (fun e W' hp=>rest_of hp hbl (fun k hk=>by omega));have hmf: ∀fn first cap w,(Instr.makeFunc fn first cap).run Tryz.prog w= .ok (.func fn first cap) w:=fun _ _ _ _=>rfl
 have hmm:= @run_makeMap Tryz.prog;have c3:=w3.at_ 0;generalize zg w0 g s (fun k=>k=W.heap.size+1+1) true d r k W4=LP at *;generalize zl4 w0 g s true d r k W=PP at *;rw[show ((ze7 true:Nat):Int)=3 from rfl]at HC;have HW4:=hq hW4;clear hb1 hb2 hb3 hb4 hbl hol hlo w3 w5 w7 hmap hj h;subst hW4;go_enter Tryz.func192,Tryz.ntmps192
 go_wp2_with fail
 refine HC.o.mono ?_;rintro e W2 hp;obtain⟨⟨b,rfl⟩,hpp⟩:=HP.o _ _ hp;have HF:=hq hpp;clear hp hpp HC;go_wp2_with fail
 first|exact ⟨⟨_,rfl⟩,HF.o⟩|(go_ret;exact⟨⟨_,rfl⟩,HF.o⟩)
end Go.Proofs.YtkafjblfjdpdaaaGreatDoor
namespace Go.Proofs.YtkafjblfjdpdaaaGreatDoor
open Go.RowKit Go.WideMaps Go.Maps
theorem infoNd:(Tryz.prog.info? 149).map (fun i=>(i.zero,i.size,i.bytes))=some (some (.agg #[.int .i64 0,.int .i64 0,.int .i64 0,.int .i64 0,.int .i64 0,.slice none 0 0,.slice none 0 0]),7,88):=by kernel_rfl
theorem enter_leaf(xs:Array Value)(w:World):(callFunc 190 xs).run Tryz.prog w= .ok (.enter 190 xs) w:=by kernel_rfl
theorem enter_array(xs:Array Value)(w:World):(callFunc 191 xs).run Tryz.prog w= .ok (.enter 191 xs) w:=by kernel_rfl
theorem enter_object(xs:Array Value)(w:World):(callFunc 192 xs).run Tryz.prog w= .ok (.enter 192 xs) w:=by kernel_rfl
theorem enter_rest(k:Nat)(xs:Array Value)(w:World):(callFunc (zO3 k) xs).run Tryz.prog w= .ok (.enter (zO3 k) xs) w:=by
 unfold zO3;split
 ·exact enter_array xs w
 ·split
  ·exact enter_object xs w
  ·exact enter_leaf xs w
def zD8(w0:World)(g:Nat)(s:ByteArray)(d kd:Nat)(r:RS)(k:Nat)(W:World)(e:Ending)(W':World):Prop:=
 (∃b:Bool,e= .returned (.bool b))/\if zb8 kd=5 then zl4 w0 g s false d r k W e W' else if zb8 kd=6 then zl4 w0 g s true d r k W e W' else e= .returned (.bool true)/\W=W'
theorem jtail_any {w0:World} {g:Nat} {s:ByteArray} {d L:Nat} (hL:L<1000000)(hs:s.size<=65536)(hT:tabs w0)(HV:ValOk w0 g s d (L+1)) {r:RS} {W:World} (h:Rd w0 g s r W) {k:Nat} (hk:k<r.nv.length)(kd:Nat):
 Calls Tryz.prog (zO3 kd) #[.pointer (some ⟨g,0,none⟩),.int .i64 (k:Int),.int .i64 (L:Int)] W (zD8 w0 g s d kd r k W):=by
 unfold zD8 zO3;by_cases h5:zb8 kd=5
 ·simp only[if_pos h5];exact(jarray_any hL HV h hk).mono fun e W' hp=>rest_of hp (Below.refl _ _) (fun k hk=>hk.elim)
 ·simp only[if_neg h5];by_cases h6:zb8 kd=6
  ·simp only[if_pos h6];exact jobject_any hL hs hT HV h hk
  ·simp only[if_neg h6];exact(jleaf_any _ _ _ W).mono fun e W' hp=>⟨⟨true,hp.1⟩,hp⟩
theorem app_ns(r:RS)(n:JN)(v:Value):(r.app n v).ns=r.ns++[n]:=by unfold RS.app RS.ns newN;simp
theorem val_of {w0:World} {g:Nat} {s:ByteArray} {d:Nat} {key:Nat×Nat} {r r1:RS} {W W1 W':World} {t:Tok} {l:List Tok} {n:Nat} (hts:nbl r.ts=t::l)(h0:zb8 t.1≠0)(hn:r.ns.length≠4096)(hts1:nbl r1.ts=l)(hns1:r1.ns=r.ns++[ze9 t key])(hF:Fr (r.own g) (r1.own g) W W1)(hR1:Rd w0 g s r1 W1)(hl:r.nv.length=n) {b:Bool}
 (hp:if zb8 t.1=5 then zl4 w0 g s false d r1 n W1 (.returned (.bool b)) W' else if zb8 t.1=6 then zl4 w0 g s true d r1 n W1 (.returned (.bool b)) W' else Ending.returned (.bool b)= .returned (.bool true)/\W1=W'):
 zm0 w0 g s r (d+1) key W (.returned (.tuple #[.int .i64 (n:Int),.bool b])) W':=by
 have hln:r.ns.length=n:=by rw[RS.ns_len,hl]
 have hrest: ∀ob:Bool,zl4 w0 g s ob d r1 n W1 (.returned (.bool b)) W'->(match zh8 (za4 s.size (za3 s) d) ob s.size (za3 s) n l (r.ns++[ze9 t key]) with
  | .inl (wh,er)=>(∃q:Int,Ending.returned (.tuple #[.int .i64 (n:Int),.bool b])= .returned (.tuple #[.int .i64 q,.bool false]))/\ ∃r',Rd w0 g s r' W'/\Fr (r.own g) (r'.own g) W W'/\r'.wh=(wh:Int)/\r'.er=er
  | .inr (l,ns)=>Ending.returned (.tuple #[.int .i64 (n:Int),.bool b])= .returned (.tuple #[.int .i64 (r.nv.length:Int),.bool true])/\ ∃r',Rd w0 g s r' W'/\Fr (r.own g) (r'.own g) W W'/\nbl r'.ts=l/\r'.ns=ns):=fun ob hp=>by
  unfold zl4 at hp;rw[hts1,hns1]at hp;cases hv:zh8 (za4 s.size (za3 s) d) ob s.size (za3 s) n l (r.ns++[ze9 t key]) with
  |inl p=>
   rw[hv]at hp;obtain⟨h1,r',h2,h3,h4,h5⟩:=hp;cases h1;exact⟨⟨_,rfl⟩,r',h2,hF.trans h3,h4,h5⟩
  |inr p=>
   rw[hv]at hp;obtain⟨h1,r',h2,h3,h4,h5⟩:=hp;cases h1;exact⟨by rw[hl],r',h2,hF.trans h3,h4,h5⟩
 unfold zm0;rw[hts];unfold za4;rw[if_neg h0,if_neg hn,hln];by_cases h5:zb8 t.1=5
 ·rw[if_pos h5]at hp ⊢;exact hrest false hp
 ·rw[if_neg h5]at hp ⊢;by_cases h6:zb8 t.1=6
  ·rw[if_pos h6]at hp ⊢;exact hrest true hp
  ·rw[if_neg h6]at hp ⊢;obtain⟨h1,rfl⟩:=hp;cases h1;exact⟨by rw[hl],r1,hR1,hF,hts1,hns1⟩
theorem val_bad {w0:World} {g:Nat} {s:ByteArray} {d:Nat} {key:Nat×Nat} {r r':RS} {W W':World} {wh:Nat} {er q:Int} (hv:za4 s.size (za3 s) d (nbl r.ts) key r.ns= .inl (wh,er))(h1:Rd w0 g s r' W')(h2:Fr (r.own g) (r'.own g) W W')(h3:r'.wh=(wh:Int))(h4:r'.er=er):zm0 w0 g s r d key W (.returned (.tuple #[.int .i64 q,.bool false])) W':=by
 unfold zm0;rw[hv];exact⟨⟨q,rfl⟩,r',h1,h2,h3,h4⟩
theorem valueM_0 {z:Nat} {tx:Nat->Nat->Bs} {d:Nat} {t:Tok} {l:List Tok} {key:Nat×Nat} {ns:List JN} (h:zb8 t.1=0):za4 z tx d (t::l) key ns= .inl (t.2.1,2):=by
 cases d<;>(unfold za4;rw[if_pos h])
theorem zK2 {z:Nat} {tx:Nat->Nat->Bs} {d:Nat} {key:Nat×Nat} {ns:List JN}:za4 z tx d [] key ns= .inl (z,2):=by
 cases d<;>rfl
theorem zE2 {z:Nat} {tx:Nat->Nat->Bs} {t:Tok} {l:List Tok} {key:Nat×Nat} {ns:List JN} (h:zb8 t.1≠0):za4 z tx 0 (t::l) key ns= .inl (t.2.1,5):=by
 unfold za4;rw[if_neg h]
theorem zE0 {z:Nat} {tx:Nat->Nat->Bs} {d:Nat} {t:Tok} {l:List Tok} {key:Nat×Nat} {ns:List JN} (h:zb8 t.1≠0)(hn:ns.length=4096):za4 z tx (d+1) (t::l) key ns= .inl (t.2.1,6):=by
 unfold za4;rw[if_neg h,if_pos hn]
theorem zw1(l:List NV)(x:NV):zd4 (l++[x])=zd4 l++ze x:=by unfold zd4;simp
end Go.Proofs.YtkafjblfjdpdaaaGreatDoor
namespace Go.Proofs.YtkafjblfjdpdaaaGreatDoor
open Go.RowKit Go.WideMaps Go.Maps
theorem zH4 {w0:World} {g:Nat} {s:ByteArray} {d L:Nat} (hL:L+d=33)(hs:s.size<=65536)(hT:tabs w0)(HV: ∀d',d=d'+1->ValOk w0 g s d' (L+1)):ValOk w0 g s d L:=by
 intro r W ka kb h;have HP:=hq (fun (r':RS) (W':World) (wh:Nat) (er q:Int)=> @val_bad w0 g s d (ka,kb) r r' W W' wh er q);have HPV:=hq (fun (d':Nat) (hd:d=d'+1)=> @val_of w0 g s d' (ka,kb) r);have HN:=hq (zy8 (h.grow (za0 W (.cells #[.int .i64 (ka:Int),.int .i64 (kb:Int)] 44))));have HL5:Hq (Lo (r.own g) (W.alloc (.cells #[.int .i64 (ka:Int),.int .i64 (kb:Int)] 44)) W.heap.size 44 #[.int .i64 (ka:Int),.int .i64 (kb:Int)]):=hq (Lo.new (fun k hk=>(h.own_lt k hk).2) _ _);have HF0:Hq (Fr (r.own g) (r.own g) W (W.alloc (.cells #[.int .i64 (ka:Int),.int .i64 (kb:Int)] 44))):=hq (Fr.of_below _ (za0 W _));have hn4:=h.n4;have hlz:(L:Int)<=33:=by omega
 obtain⟨PP,hPP⟩: ∃PP,PP=zm0 w0 g s r d (ka,kb) W:=⟨_,rfl⟩;have HPP:=hq hPP;rw[←hPP];rw[←hPP]at HP;clear h hPP;go_enter Tryz.func113,Tryz.ntmps113
 go_wp2_with fail
 refine HN.o.mono ?_;rintro e W2 ⟨ts,o,cap,rfl,hR,hF,hnb,hst⟩;have HR2:=hq hR;have HF2:=hq (HF0.o.trans hF);have HL2:=hq (HL5.o.step hF);have HNB:=hq hnb;clear hR hF hnb HN HL5 HF0;rcases hst with rfl|⟨t,l,rfl,ht⟩
 ·unfold zx;dsimp only;have hv:za4 s.size (za3 s) d (nbl r.ts) (ka,kb) r.ns= .inl (s.size,2):=by rw[←HNB.o];exact zK2
  have HVB:=hq (fun r' W'=>HP.o r' W' s.size 2 0 hv);have HW3:=hq (HR2.o.grow (za0 W2 (.cells #[.int .i64 0,.int .i64 0,.int .i64 0] 131)));have HF3:=hq (HF2.o.trans (Fr.of_below _ (za0 W2 (.cells #[.int .i64 0,.int .i64 0,.int .i64 0] 131))));have hc0:=HW3.o.cells.1;have HC:=hq (zt2 HW3.o 2 (s.size:Int));clear hv HP HPV HR2 HF2 HL2 HNB HPP HV;go_wp2_with fail
  refine HC.o.mono ?_;rintro e W4 ⟨rfl,hR4,hF4⟩;have HV2:=hq (HVB.o _ _ hR4 (HF3.o.trans hF4) rfl rfl);clear hR4 hF4;go_wp2_with fail
  exact HV2.o
 ·obtain ⟨kd,ta,tb⟩:=t;unfold zx;dsimp only;simp only at ht;have HNB2:Hq (nbl r.ts=(kd,ta,tb)::nbl l):=hq (by rw[←HNB.o,zr6,if_neg ht]);have HW3:=hq (HR2.o.grow (za0 W2 (.cells #[.int .i64 (kd:Int),.int .i64 (ta:Int),.int .i64 (tb:Int)] 131)));have HF3:=hq (HF2.o.trans (Fr.of_below _ (za0 W2 (.cells #[.int .i64 (kd:Int),.int .i64 (ta:Int),.int .i64 (tb:Int)] 131))));have HL3:=hq (HL2.o.below (za0 W2 (.cells #[.int .i64 (kd:Int),.int .i64 (ta:Int),.int .i64 (tb:Int)] 131)));have HB3:Hq (Lo (r.own g) (W2.alloc (.cells #[.int .i64 (kd:Int),.int .i64 (ta:Int),.int .i64 (tb:Int)] 131)) W2.heap.size 131 #[.int .i64 (kd:Int),.int .i64 (ta:Int),.int .i64 (tb:Int)]):=hq (Lo.new (fun k hk=>(HR2.o.own_lt k hk).2) _ _);clear HR2 HF2 HL2 HNB;go_upto_region 4 with fail
  generalize hW3:W2.alloc (.cells #[.int .i64 (kd:Int),.int .i64 (ta:Int),.int .i64 (tb:Int)] 131)=W3 at *;generalize W2.heap.size=b8 at *;generalize W.heap.size=b5 at *;clear hW3;have x0:=HB3.o.cell 0;have x1:=HB3.o.cell 1;have HST:=hq (jstep_any (.pointer (some ⟨g,0,none⟩)) kd W3);go_wp2_with fail
  refine HST.o.mono ?_;rintro e W4 ⟨rfl,hw4⟩;rw[←hw4];clear hw4 HST;have HC:=hq (fun (er:Int)=>zt2 HW3.o er (ta:Int));by_cases hk0:zb8 kd=0
  ·have hv:za4 s.size (za3 s) d (nbl r.ts) (ka,kb) r.ns= .inl (ta,2):=by rw[HNB2.o];exact valueM_0 hk0
   have HVB:=hq (fun r' W'=>HP.o r' W' ta 2 0 hv);have hkz:((zb8 kd:Nat):Int)=0:=by omega
   rw[hkz];clear hv HP HPV HPP HV hk0 HNB2;go_wp2_with fail
   refine(HC.o 2).mono ?_;rintro e W5 ⟨rfl,hR4,hF4⟩;have HV2:=hq (HVB.o _ _ hR4 (HF3.o.trans hF4) rfl rfl);clear hR4 hF4;go_wp2_with fail
   exact HV2.o
  ·have hkz: ¬((zb8 kd:Nat):Int)=0:=by omega
   have hkb:(((zb8 kd:Nat):Int)==0)=false:=beq_eq_false_iff_ne.2 hkz;have HK0:=hq hk0;cases d with
   |zero=>
    have hv:za4 s.size (za3 s) 0 (nbl r.ts) (ka,kb) r.ns= .inl (ta,5):=by rw[HNB2.o];exact zE2 hk0
    have HVB:=hq (fun r' W'=>HP.o r' W' ta 5 0 hv);have hlz2:(32:Int)<(L:Int):=by omega
    clear hv HP HPV HPP HV hk0 HNB2;generalize ((zb8 kd:Nat):Int)=kz at *;go_wp2_with fail
    refine(HC.o 5).mono ?_;rintro e W5 ⟨rfl,hR4,hF4⟩;have HV2:=hq (HVB.o _ _ hR4 (HF3.o.trans hF4) rfl rfl);clear hR4 hF4;go_wp2_with fail
    exact HV2.o
   |succ d=>
    have hlz2: ¬(32:Int)<(L:Int):=by omega
    have d2:=HW3.o.cells.2.2.1;obtain⟨na,nc,hnv⟩:=ze6 HW3.o.nd;simp only[RS.at]at d2 hnv;rw[hnv]at d2;by_cases hfull:r.nv.length=4096
    ·have hv:za4 s.size (za3 s) (d+1) (nbl r.ts) (ka,kb) r.ns= .inl (ta,6):=by rw[HNB2.o];exact zE0 hk0 (by rw[RS.ns_len];exact hfull)
     have HVB:=hq (fun r' W'=>HP.o r' W' ta 6 0 hv);have hfz:((r.nv.length:Nat):Int)=4096:=by omega
     rw[hfull]at d2;clear hv HP HPV HPP HV hk0 HNB2;generalize ((zb8 kd:Nat):Int)=kz at *;go_wp2_with fail
     refine(HC.o 6).mono ?_;rintro e W5 ⟨rfl,hR4,hF4⟩;have HV2:=hq (HVB.o _ _ hR4 (HF3.o.trans hF4) rfl rfl);clear hR4 hF4;go_wp2_with fail
     exact HV2.o
    ·have hfz: ¬((r.nv.length:Nat):Int)=4096:=by omega
     have hfb:(((r.nv.length:Nat):Int)==4096)=false:=beq_eq_false_iff_ne.2 hfz;obtain⟨b,f,A,ho,hA,hcap,hR4⟩:=HW3.o.tail;subst ho;have hc1:=HW3.o.cells.2.1;have hcf:=HW3.o.cells.2.2.2.2.2;simp only[RS.at,List.length_cons]at hc1;obtain⟨m,hm⟩: ∃m,m=l.length+1:=⟨_,rfl⟩;rw[←hm]at hc1 hcap;have hm0:0<m:=by omega
     have hmz:(0:Int)<(m:Int):=by omega
     have hm1:1<=m:=by omega
     have hml:m-1=l.length:=by omega
     have hfr:=Fr.put r g W3 1 (.slice A l.length (cap-1));have HF4:=hq (HF3.o.trans hfr);have HB4:=hq (HB3.o.step hfr);have HL4:=hq (HL3.o.step hfr);have HR4:=hq hR4;have e2:=hR4.cells.2.2.1;simp only[RS.at]at e2;rw[hnv]at e2;have HND:=hq hnv;clear hR4 hfr HW3 HF3 HB3 HL3 hm HC HP hnv;generalize hkz0:((zb8 kd:Nat):Int)=kz at *;go_upto_region 13 with fail
     generalize W3.setCell ⟨g,1,none⟩ (.slice A l.length (cap-1))=W4 at *;have x1:=HB4.o.cell 1;have x2:=HB4.o.cell 2;have y0:=HL4.o.cell 0;have y1:=HL4.o.cell 1;have hb5:=(za0 W4 (.cells #[.int .i64 kz,.int .i64 (ta:Int),.int .i64 (tb:Int),.int .i64 (ka:Int),.int .i64 (kb:Int),.slice none 0 0,.slice none 0 0] 149)).drew;have HBL5:=hq hb5;have HR5:=hq (HR4.o.grow hb5);have e2a:=((za0 W4 (.cells #[.int .i64 kz,.int .i64 (ta:Int),.int .i64 (tb:Int),.int .i64 (ka:Int),.int .i64 (kb:Int),.slice none 0 0,.slice none 0 0] 149)).cell (zb2 e2)).trans e2;have HNR:=hq HR5.o.nd;simp only[RS.at]at HNR;rw[HND.o]at HNR;have hwx:w0.heap.size<=W4.heap.size:=HR4.o.bl.size;have hlt4:r.nv.length<4096:=by omega
     have HBK:=hq HR5.o.blk;have HNG:=hq HR5.o.ng;simp only[RS.at]at HBK HNG;rw[HND.o]at HBK HNG;obtain⟨i1,hi1,hy0,hy1,hy2⟩:=info_parts infoNd;clear hb5 d2
     go_region_law (refine zw5 rfl (.tmp 79) (.tmp 85) 76 rfl w0.heap.size 149 i1 (.agg #[.int .i64 0,.int .i64 0,.int .i64 0,.int .i64 0,.int .i64 0,.slice none 0 0,.slice none 0 0]) 7 88 Tryz.underlying76 hi1 hy0 hy1 hy2 rfl (by decide) (.slice na r.nv.length nc) r.nv.length (zd4 r.nv) (by simp[Act.eval]) HNR.o ⟨W4.heap.size,0,none⟩ 1 1 [.int .i64 kz,.int .i64 (ta:Int),.int .i64 (tb:Int),.int .i64 (ka:Int),.int .i64 (kb:Int),.slice none 0 0,.slice none 0 0] (by simp[Act.eval]) rfl (ze0 W4 [.int .i64 kz,.int .i64 (ta:Int),.int .i64 (tb:Int),.int .i64 (ka:Int),.int .i64 (kb:Int),.slice none 0 0,.slice none 0 0] _) (by simp[Value.oneCell']) (by unfold maxLen;omega) (by omega) (by show w0.heap.size<=(W4.alloc _).heap.size;rw[World.size_alloc];omega) ?_;intro v' W6 hown6 hgrow6 hat6;obtain⟨g6,c6,rfl⟩:=zj0 hown6;have HWK:=hq (ze8 HBK.o hgrow6 (fun b e hb=>HNG.o (by rw[e,hb])));have f2:=HWK.o.at_ 2;have ff:=HWK.o.free)
     all_goals
      have happ:=HR5.o.app (n:=ze9 (kd,ta,tb) (ka,kb)) (v':= .slice (some ⟨g6,0,none⟩) (r.nv.length+1) c6) (W':=W6) rfl rfl hlt4 (by
       have e1:ze (newN (ze9 (kd,ta,tb) (ka,kb)))=[.int .i64 kz,.int .i64 (ta:Int),.int .i64 (tb:Int),.int .i64 (ka:Int),.int .i64 (kb:Int),.slice none 0 0,.slice none 0 0]:=by rw[←hkz0];rfl
       rw[zw1,e1];exact hown6) (by show World.grownBy _ W6 r.vN.ownBlock;rw[HND.o];exact hgrow6) (by show _=r.vN.ownBlock\/_;rw[HND.o];exact hat6)
      obtain⟨r7,HR7,HF7,hns7,hts7,hl7⟩: ∃r7:RS,Hq (Rd w0 g s r7 (W6.setCell ⟨g,2,none⟩ (.slice (some ⟨g6,0,none⟩) (r.nv.length+1) c6)))/\Hq (Fr (r.own g) (r7.own g) W (W6.setCell ⟨g,2,none⟩ (.slice (some ⟨g6,0,none⟩) (r.nv.length+1) c6)))/\Hq (r7.ns=r.ns++[ze9 (kd,ta,tb) (ka,kb)])/\Hq (nbl r7.ts=nbl l)/\r7.nv.length=r.nv.length+1:=
       ⟨_,hq happ.1,hq ((HF4.o.trans (Fr.of_below _ HBL5.o)).trans happ.2),hq (app_ns _ _ _),hq rfl,by unfold RS.app RS.at;simp⟩
      clear happ hown6 hgrow6 hat6 HWK f2 ff HR5 HNR HBK HNG HBL5 HB4 HL4 HR4 HF4 x1 x2 y0 y1 e2 e2a;go_simp
      generalize W6.setCell ⟨g,2,none⟩ (.slice (some ⟨g6,0,none⟩) (r.nv.length+1) c6)=W7 at *;have hcf2:=enter_rest kd;have HC:=hq (jtail_any (L:=L) (by omega) hs hT (HV d rfl) HR7.o (show r.nv.length<r7.nv.length by omega) kd);have HFIN:Hq (∀(e:Ending) (W':World),zD8 w0 g s d kd r7 r.nv.length W7 e W'-> ∃b:Bool,e= .returned (.bool b)/\PP (.returned (.tuple #[.int .i64 (r.nv.length:Int),.bool b])) W'):=hq (fun e W' hp=>by
       obtain⟨⟨b,rfl⟩,hp2⟩:=hp;refine⟨b,rfl,?_⟩;rw[HPP.o];exact HPV.o d rfl (t:=(kd,ta,tb)) (l:=nbl l) HNB2.o HK0.o (by rw[RS.ns_len];exact hfull) hts7.o hns7.o HF7.o HR7.o rfl hp2)
      generalize zD8 w0 g s d kd r7 r.nv.length W7=TP at *;generalize zO3 kd=FF at *;clear HPV HV HPP HNB2 HK0 HR7 HF7 hns7 hts7;go_wp2_with fail
      refine HC.o.mono ?_;rintro e W8 hp;obtain⟨b,rfl,hpp⟩:=HFIN.o _ _ hp;have HV2:=hq hpp;clear hp hpp HC HFIN;go_wp2_with fail
      exact HV2.o
theorem zL9 {w0:World} {g:Nat} {s:ByteArray} (hs:s.size<=65536)(hT:tabs w0): ∀(d L:Nat),L+d=33->ValOk w0 g s d L
 |0,L,hL=>zH4 hL hs hT (fun d' h=>by omega)
 |d+1,L,hL=>zH4 hL hs hT (fun d' h=>by
  obtain rfl:d=d':=by omega
  exact zL9 hs hT d (L+1) (by omega))
theorem zh2 {w:World} {B B' e size n:Nat} {v:Value} {xs:List Value} (h:w.ownsRow B e size v n xs)(hb:B'<=B):w.ownsRow B' e size v n xs:=by
 refine⟨h.1,?_⟩;rcases h.2 with h1|⟨g,cap,cur,h1,h2,h3⟩
 ·exact .inl h1
 ·exact .inr ⟨g,cap,cur,h1,Nat.le_trans hb h2,h3⟩
structure DocIn(B:Nat)(nv:List NV)(vN:Value)(W:World):Prop where
 nd:W.ownsRow B 149 7 vN nv.length (zd4 nv)
 kr: ∀i (hi:i<nv.length),W.ownsRow B 3 1 nv[i].k nv[i].n.kids.length (kidC nv[i].n.kids)
 pr: ∀i (hi:i<nv.length),W.ownsRow B 44 2 nv[i].p nv[i].n.pcs.length (pcC nv[i].n.pcs)
 ak: ∀i j (hi:i<nv.length) (hj:j<nv.length),i≠j-> ∀q,nv[i].k.ownBlock=some q->nv[j].k.ownBlock≠some q
 ap: ∀i j (hi:i<nv.length) (hj:j<nv.length),i≠j-> ∀q,nv[i].p.ownBlock=some q->nv[j].p.ownBlock≠some q
 n4:nv.length<=4096
 kl: ∀i (hi:i<nv.length),nv[i].n.kids.length<=nv.length/\nv[i].n.pcs.length<=nv.length
theorem Rd.doc {w0 W:World} {g:Nat} {s:ByteArray} {r:RS} (h:Rd w0 g s r W) {B:Nat} (hB:B<=w0.heap.size):DocIn B r.nv r.vN W:=
 ⟨zh2 h.nd hB,fun i hi=>zh2 (h.kr i hi) hB,fun i hi=>zh2 (h.pr i hi) hB,h.ak,h.ap,h.n4,h.kl⟩
theorem DocIn.grow {B:Nat} {nv:List NV} {vN:Value} {W W':World} (h:DocIn B nv vN W)(hb:Below W.heap.size W W'):DocIn B nv vN W':=by
 have hg:W.grownBy W' none:=⟨hb.os,hb.tape,hb.output,hb.size,fun j hj _=>hb.block j hj⟩;have hn: ∀(v:Value) (b:Nat),(none:Option Nat)=some b->v.ownBlock≠some b:=fun v b e=>by cases e
 exact⟨za5 h.nd hg (hn _),fun i hi=>za5 (h.kr i hi) hg (hn _),fun i hi=>za5 (h.pr i hi) hg (hn _),h.ak,h.ap,h.n4,h.kl⟩
def docA(s:Bs)(vN:Value):Value:= .agg #[.string (st s),vN]
def zf5(s:ByteArray)(W:World)(e:Ending)(W':World):Prop:=
 match zc2 s with
 | .inl (wh,er)=>e= .returned (.tuple #[.agg #[.string ⟨#[]⟩,.slice none 0 0],.int .i64 (wh:Int),.int .i64 er])/\Below W.heap.size W W'
 | .inr ns=> ∃nv vN,e= .returned (.tuple #[.agg #[.string s,vN],.int .i64 (s.size:Int),.int .i64 0])/\DocIn W.heap.size nv vN W'/\nv.map NV.n=ns/\Below W.heap.size W W'
def set2(w:World)(b:Nat)(u0 u1:Value):World:=(w.setCell ⟨b,0,none⟩ u0).setCell ⟨b,1,none⟩ u1
theorem ze3 {w:World} {b:Nat} {T:TypeId} {x y:Value} (h:Whole w b T #[x,y])(u0 u1:Value):Whole (set2 w b u0 u1) b T #[u0,u1]:=(h.put 0 u0).put 1 u1
theorem zk4 {B b:Nat} {a w:World} (h:Below B a w)(hb:B<=b)(u0 u1:Value):Below B a (set2 w b u0 u1):=(h.setCell (p:=⟨b,0,none⟩) hb u0).setCell (p:=⟨b,1,none⟩) hb u1
theorem Fr.far2 {w:World} {b:Nat} {o:Nat->Prop} (ho: ¬o b)(u0 u1:Value): ∀k,o k->(set2 w b u0 u1).heap[k]?=w.heap[k]?:=fun k hk=>by
 have hne:k≠b:=fun e=>ho (e▸hk)
 unfold set2;rw[Below.heap_setCell _ _ _ _ hne,Below.heap_setCell _ _ _ _ hne]
theorem DocIn.far {B:Nat} {nv:List NV} {vN:Value} {W:World} (h:DocIn B nv vN W) {b:Nat} (hb:b<B)(u0 u1:Value):DocIn B nv vN (set2 W b u0 u1):=by
 have hg:W.grownBy (set2 W b u0 u1) (some b):=⟨rfl,rfl,rfl,by simp[set2,World.setCell],fun k _ hne=>by
  have hk:k≠b:=fun e=>hne (by rw[e])
  unfold set2;rw[Below.heap_setCell _ _ _ _ hk,Below.heap_setCell _ _ _ _ hk]⟩
 have hn: ∀ {e size n:Nat} {v:Value} {xs:List Value},W.ownsRow B e size v n xs-> ∀b',some b=some b'->v.ownBlock≠some b':=fun ho b' e hq=>by
  cases e;have:=(ho.lt b hq).1;omega
 exact⟨za5 h.nd hg (hn h.nd),fun i hi=>za5 (h.kr i hi) hg (hn (h.kr i hi)),fun i hi=>za5 (h.pr i hi) hg (hn (h.pr i hi)),h.ak,h.ap,h.n4,h.kl⟩
theorem zN2 {s:ByteArray} (h:(zd0 s).2.2=0):s.size<=65536:=by
 unfold zd0 at h;split at h
 ·exact absurd h (by decide)
 ·omega
theorem Rd.start {w3:World} {s:ByteArray} {l:List Tok} {B:Nat} {v:Value} (hrow:w3.ownsRow B 131 3 v l.length (zd7 l))(hsp: ∀t∈l,t.2.1<=t.2.2/\t.2.2<=s.size):
 ∃o cap,v= .slice o l.length cap/\Rd w3 w3.heap.size s ⟨l,o,cap,[],.slice none 0 0,0,0⟩ (w3.alloc (.cells #[.string s,v,.slice none 0 0,.int .i64 0,.int .i64 0] 128)):=by
 have hmk: ∀o cap,v= .slice o l.length cap->TokIn w3 o l->l.length<=cap->cap<=maxLen->Rd w3 w3.heap.size s ⟨l,o,cap,[],.slice none 0 0,0,0⟩ (w3.alloc (.cells #[.string s,v,.slice none 0 0,.int .i64 0,.int .i64 0] 128)):=fun o cap hv ht hl hm=>by
  subst hv;exact⟨Whole.made w3 _ _,⟨ht,hsp⟩,hl,hm,World.ownsRow_nil _ _ _ _,fun i hi=>absurd hi (Nat.not_lt_zero _),fun i hi=>absurd hi (Nat.not_lt_zero _),fun i j hi=>absurd hi (Nat.not_lt_zero _),fun i j hi=>absurd hi (Nat.not_lt_zero _),za0 w3 _,Nat.le_refl _,Nat.zero_le _,fun i hi=>absurd hi (Nat.not_lt_zero _)⟩
 rcases hrow.2 with ⟨hv,h0⟩|⟨gT,cap,cur,hv,_,_,hc,hm,_⟩
 ·refine ⟨none,0,by rw[hv,h0],hmk none 0 (by rw[hv,h0]) (fun i hi=>by omega) (by omega) (Nat.zero_le _)⟩
 ·by_cases hl:0<l.length
  ·obtain ⟨gT',cap',hv',_,_,hc',hm',_,hcell⟩:=toks_cell hrow hl;refine⟨some ⟨gT',0,none⟩,cap',hv',hmk _ _ hv' (fun i hi=>⟨gT',0,rfl,?_⟩) hc' hm'⟩;have:=hcell i l[i] (List.getElem?_eq_getElem hi);simp only[Nat.zero_add];exact this
  ·refine ⟨_,cap,hv,hmk _ _ hv (fun i hi=>by omega) hc hm⟩
theorem zM0 {s:ByteArray} {W W':World} {wh:Nat} {er:Int} (h:zc2 s= .inl (wh,er))(hb:Below W.heap.size W W'):zf5 s W (.returned (.tuple #[.agg #[.string ⟨#[]⟩,.slice none 0 0],.int .i64 (wh:Int),.int .i64 er])) W':=by
 unfold zf5;rw[h];exact⟨rfl,hb⟩
theorem jparse_ok {s:ByteArray} {W W':World} {ns:List JN} {nv:List NV} {vN:Value} (h:zc2 s= .inr ns)(hd:DocIn W.heap.size nv vN W')(hn:nv.map NV.n=ns)(hb:Below W.heap.size W W'):zf5 s W (.returned (.tuple #[.agg #[.string s,vN],.int .i64 (s.size:Int),.int .i64 0])) W':=by
 unfold zf5;rw[h];exact⟨nv,vN,rfl,hd,hn,hb⟩
theorem jparse_any(s:ByteArray)(W:World)(hT:tabs W)(hs:s.size<=maxLen):Calls Tryz.prog 70 #[.string s] W (zf5 s W):=by
 have hT1:=zi5 hT (za0 W (.cells #[.string ⟨#[]⟩,.slice none 0 0] 78));have HTK:=hq (tokens4_any s _ hT1 hs);unfold zR0 at HTK;have HT1:=hq hT1;have HB1:=hq (za0 W (.cells #[.string ⟨#[]⟩,.slice none 0 0] 78));have HW1:=hq (Whole.made W 78 #[.string ⟨#[]⟩,.slice none 0 0]);have HBAD:=hq (fun (W':World) (wh:Nat) (er:Int)=> @zM0 s W W' wh er);have HOK:=hq (fun (W':World) (ns:List JN) (nv:List NV) (vN:Value)=> @jparse_ok s W W' ns nv vN);have HMEM:=hq (fun x hx=>(@zr0 s x hx));have HSZ:=hq (@zN2 s);have HPM:Hq (zc2 s=if (zd0 s).2.2≠0 then .inl (zd0 s).2 else match za4 s.size (za3 s) 32 (nbl (zd0 s).1) (0,0) [] with
  | .inl e=> .inl e
  | .inr (l,ns)=>if l=[] then .inr ns else .inl (((l.head?).map fun t=>t.2.1).getD 0,2)):=hq rfl
 generalize zc2 s=PM at *;generalize zf5 s W=PP at *;generalize zd0 s=TM at *;obtain⟨toks,ta,te⟩:=TM;simp only at HTK HMEM HSZ HPM;clear hT hT1;by_cases hte:te=0
 ·subst hte;have HSZ2:=HSZ.o rfl;go_enter Tryz.func70,Tryz.ntmps70
  go_wp2_with fail
  refine HTK.o.mono ?_;rintro e W3 ⟨v,rfl,hrow,hb3⟩;obtain⟨o,cap,rfl,hR⟩:=Rd.start (w3:=W3) (s:=s) hrow (fun t ht=>⟨Nat.le_of_lt (HMEM.o t ht).1,(HMEM.o t ht).2.1⟩);have hT3:=zi5 HT1.o hb3;have HB3:=hq (za HB1.o hb3);have HD3:=hq (HW1.o.grow hb3);have HC:=hq (zL9 HSZ2 hT3 32 1 rfl _ _ 0 0 hR);unfold zm0 at HC;have HWL:W.heap.size<W3.heap.size:=HD3.o.lt;rw[if_neg (by simp)]at HPM;simp only[RS.ns,List.map_nil]at HC;clear hrow hb3 hR HTK HW1 HB1 HMEM HSZ;cases hv:za4 s.size (za3 s) 32 (nbl toks) (0,0) [] with
  |inl e=>
   obtain⟨wh,er⟩:=e;rw[hv]at HC HPM;simp only at HC HPM;have HBD:=hq (fun W'=>HBAD.o W' wh er HPM.o);clear hv HBAD HOK HPM;go_wp2_with fail
   refine HC.o.mono ?_;rintro e W4 ⟨⟨q,rfl⟩,r4,hR4,hF4,hwh,her⟩;have HR4:=hq hR4;have k3:=hR4.cells.2.2.2.1;have k4:=hR4.cells.2.2.2.2.1;rw[hwh]at k3;rw[her]at k4;have hD4:Whole W4 W.heap.size 78 #[.string ⟨#[]⟩,.slice none 0 0]:=HD3.o.kept hR4.bl HWL;have HD5:=hq (show Whole (set2 W4 W.heap.size (.string ⟨#[]⟩) (.slice none 0 0)).drew W.heap.size 78 #[.string ⟨#[]⟩,.slice none 0 0] from ze3 hD4 (.string ⟨#[]⟩) (.slice none 0 0));have HV:=hq (HBD.o _ (zk4 (za HB3.o hR4.bl) (Nat.le_refl _) (.string ⟨#[]⟩) (.slice none 0 0)).drew);have y0:=hD4.at_ 0;have y1:=hD4.at_ 1;have yf:=hD4.free;have HZ:=hq (And.intro (HD5.o.at_ 0) (HD5.o.at_ 1));unfold set2 at HV HZ;clear hR4 hF4 hwh her hD4 HR4 HC HBD HD5;go_wp2_with fail
   go_region
   all_goals
    go_wp2_with fail
    refine bodyPost_ret (v:= .tuple #[.agg #[.string ⟨#[]⟩,.slice none 0 0],.int .i64 (wh:Int),.int .i64 er]) ?_ rfl HV.o;obtain⟨z0,z1⟩:=HZ.o;simp[results,Tryz.results70,go_sem]at z0 z1 ⊢;simp[z0,z1]
  |inr p=>
   obtain⟨l,ns⟩:=p;rw[hv]at HC HPM;simp only at HC HPM;clear hv;go_wp2_with fail
   refine HC.o.mono ?_;rintro e W4 ⟨rfl,r4,hR4,hF4,hts4,hns4⟩;have HN:=hq (zy8 hR4);have HNS:=hq hns4;have HTS:=hq hts4;clear hR4 hF4 hts4 hns4 HC;go_wp2_with fail
   refine HN.o.mono ?_;rintro e W5 ⟨ts,o5,cap5,rfl,hR5,hF5,hnb,hst⟩;rcases hst with rfl|⟨t,l',rfl,ht⟩
   ·have hl:l=[]:=by rw[←HTS.o,←hnb];rfl
    have HPM2:Hq (PM= .inr ns):=hq (by rw[HPM.o,if_pos hl]);unfold zx;dsimp only;have hR6:=hR5.grow (za0 W5 (.cells #[.int .i64 0,.int .i64 0,.int .i64 0] 131));have hD6:Whole (W5.alloc (.cells #[.int .i64 0,.int .i64 0,.int .i64 0] 131)) W.heap.size 78 #[.string ⟨#[]⟩,.slice none 0 0]:=HD3.o.kept hR6.bl HWL;obtain⟨na,nc,hnv⟩:=ze6 hR6.nd;have k2:=hR6.cells.2.2.1;rw[hnv]at k2;have hD7:=ze3 hD6 (.string s) (.slice na (r4.at [] o5 cap5).nv.length nc);have hB6:=za HB3.o hR6.bl;have hdoc:DocIn W.heap.size r4.nv (.slice na (r4.at [] o5 cap5).nv.length nc) (set2 (W5.alloc (.cells #[.int .i64 0,.int .i64 0,.int .i64 0] 131)) W.heap.size (.string s) (.slice na (r4.at [] o5 cap5).nv.length nc)):=by
     have h1:=(hR6.doc (Nat.le_refl _)).far (b:=W.heap.size) HWL (.string s) (.slice na (r4.at [] o5 cap5).nv.length nc);have h2:(r4.at [] o5 cap5).vN= .slice na (r4.at [] o5 cap5).nv.length nc:=hnv;rw[h2]at h1;have hlw:W.heap.size<=W3.heap.size:=Nat.le_of_lt HWL;exact⟨zh2 h1.nd hlw,fun i hi=>zh2 (h1.kr i hi) hlw,fun i hi=>zh2 (h1.pr i hi) hlw,h1.ak,h1.ap,h1.n4,h1.kl⟩
    have HV:=hq (HOK.o _ ns r4.nv _ HPM2.o hdoc HNS.o (zk4 hB6 (Nat.le_refl _) _ _));have y0:=hD6.at_ 0;have y1:=hD6.at_ 1;have yf:=hD6.free;have HZ:=hq (And.intro (hD7.at_ 0) (hD7.at_ 1));generalize (r4.at [] o5 cap5).nv.length=n6 at *;unfold set2 at HV HZ;clear hdoc hD6 hD7 hR5 hR6 hF5 hnb hnv hB6 HN HPM HPM2 HOK HBAD HTS;go_wp2_with fail
    refine bodyPost_ret (v:= .tuple #[.agg #[.string s,.slice na n6 nc],.int .i64 (s.size:Int),.int .i64 0]) ?_ rfl HV.o;obtain⟨z0,z1⟩:=HZ.o;simp[results,Tryz.results70,go_sem,z0,z1]
   ·obtain ⟨kd,ta2,tb2⟩:=t;simp only at ht;have hl:l=(kd,ta2,tb2)::nbl l':=by rw[←HTS.o,←hnb,zr6,if_neg ht]
    have HPM2:Hq (PM= .inl (ta2,2)):=hq (by rw[HPM.o,hl,if_neg (by simp)];rfl);unfold zx;dsimp only;have hR6:=hR5.grow (za0 W5 (.cells #[.int .i64 (kd:Int),.int .i64 (ta2:Int),.int .i64 (tb2:Int)] 131));have hD6:Whole (W5.alloc (.cells #[.int .i64 (kd:Int),.int .i64 (ta2:Int),.int .i64 (tb2:Int)] 131)) W.heap.size 78 #[.string ⟨#[]⟩,.slice none 0 0]:=HD3.o.kept hR6.bl HWL;have hne5:W5.heap.size≠(⟨W.heap.size,0,none⟩:Addr).block:=by
     have h1:=hR5.bl.size;simp only;omega
    have hwt:=Whole.made W5 131 #[.int .i64 (kd:Int),.int .i64 (ta2:Int),.int .i64 (tb2:Int)];have x1:=hwt.at_ 1;have x1a:=(hwt.far (p:=⟨W.heap.size,0,none⟩) hne5 (.string ⟨#[]⟩)).at_ 1;have x1b:=((hwt.far (p:=⟨W.heap.size,0,none⟩) hne5 (.string ⟨#[]⟩)).far (p:=⟨W.heap.size,1,none⟩) hne5 (.slice none 0 0)).at_ 1;clear hwt hne5;have hD7:Whole (set2 (W5.alloc (.cells #[.int .i64 (kd:Int),.int .i64 (ta2:Int),.int .i64 (tb2:Int)] 131)) W.heap.size (.string ⟨#[]⟩) (.slice none 0 0)).drew W.heap.size 78 #[.string ⟨#[]⟩,.slice none 0 0]:=ze3 hD6 (.string ⟨#[]⟩) (.slice none 0 0);have hB6:=za HB3.o hR6.bl;have HV:=hq (HBAD.o _ ta2 2 HPM2.o (zk4 hB6 (Nat.le_refl _) (.string ⟨#[]⟩) (.slice none 0 0)).drew);have y0:=hD6.at_ 0;have y1:=hD6.at_ 1;have yf:=hD6.free;have HZ:=hq (And.intro (hD7.at_ 0) (hD7.at_ 1));unfold set2 at HV HZ;clear hD6 hD7 hR5 hR6 hF5 hnb hB6 HN HPM HPM2 HOK HBAD HTS HNS hl;go_wp2_with fail
    go_region
    all_goals
     go_wp2_with fail
     refine bodyPost_ret (v:= .tuple #[.agg #[.string ⟨#[]⟩,.slice none 0 0],.int .i64 (ta2:Int),.int .i64 2]) ?_ rfl HV.o;obtain⟨z0,z1⟩:=HZ.o;simp[results,Tryz.results70,go_sem]at z0 z1 ⊢;simp[z0,z1]
 ·have hteb:(te !=0)=true:=bne_iff_ne.2 hte;have HPM2:Hq (PM= .inl (ta,te)):=hq (by rw[HPM.o,if_pos hte]);have HBD:=hq (fun W'=>HBAD.o W' ta te HPM2.o);clear HOK HPM HMEM HSZ HBAD;go_enter Tryz.func70,Tryz.ntmps70
  go_wp2_with fail
  refine HTK.o.mono ?_;rintro e W3 ⟨v,rfl,hrow,hb3⟩;obtain⟨va,vc,rfl⟩:=ze6 hrow;have hD3:=HW1.o.grow hb3;have hD4:=ze3 hD3 (.string ⟨#[]⟩) (.slice none 0 0);have HV:=hq (HBD.o _ (zk4 (za HB1.o hb3) (Nat.le_refl _) (.string ⟨#[]⟩) (.slice none 0 0)));have y0:=hD3.at_ 0;have y1:=hD3.at_ 1;have yf:=hD3.free;have HZ:=hq (And.intro (hD4.at_ 0) (hD4.at_ 1));unfold set2 at HV HZ;clear hD3 hD4 hrow hb3 HTK HBD HW1 HB1 hte;go_wp2_with fail
  refine bodyPost_ret (v:= .tuple #[.agg #[.string ⟨#[]⟩,.slice none 0 0],.int .i64 (ta:Int),.int .i64 te]) ?_ rfl HV.o;obtain⟨z0,z1⟩:=HZ.o;simp[results,Tryz.results70,go_sem,z0,z1]
theorem DocIn.node {B:Nat} {nv:List NV} {vN:Value} {W:World} (h:DocIn B nv vN W) {k:Nat} (hk:k<nv.length): ∃gN cap,vN= .slice (some ⟨gN,0,none⟩) nv.length cap/\nv.length<=cap/\cap<=maxLen/\gN<W.heap.size/\B<=gN/\(∀o,W.frozen? ⟨gN,o,none⟩=false)/\ ∀i (hi:i<nv.length) j,j<7->W.cell? ⟨gN,i*7+j,none⟩=(ze nv[i])[j]?:=by
 rcases h.nd.2 with ⟨_,h0⟩|⟨gN,cap,cur,hv,hgb,hh,hc,hm,_⟩
 ·omega
 ·refine ⟨gN,cap,hv,hc,hm,(h.nd.lt gN (by rw[hv];rfl)).2,hgb,fun o=>frozen_of_row W gN o cur _ hh,fun i hi j hj=> ?_⟩;have hcl:=h.nd.cells (g:=gN) (by rw[hv];rfl) (i*7+j);have ha:=zt0 nv i j hi hj;have e1:(⟨gN,0,none⟩:Addr).add (i*7+j)=⟨gN,i*7+j,none⟩:=by rw[Addr.add_lit,Nat.zero_add]
  rw[e1,ha]at hcl;cases hx:(ze nv[i])[j]? with
  |none=>
   have:=List.getElem?_eq_none_iff.1 hx;simp[ze]at this;omega
  |some u=>exact hcl u hx
theorem zL0 {w:World} {B e size n:Nat} {v:Value} {xs:List Value} (h:w.ownsRow B e size v (n+1) xs): ∃g c,v= .slice (some ⟨g,0,none⟩) (n+1) c/\n+1<=c/\c<=maxLen/\ ∀j u,xs[j]?=some u->w.cell? ⟨g,j,none⟩=some u:=by
 rcases h.2 with ⟨_,h0⟩|⟨g,cap,cur,hv,_,_,hc,hm,_⟩
 ·omega
 ·refine ⟨g,cap,hv,hc,hm,fun j u hu=> ?_⟩;have:=h.cells (g:=g) (by rw[hv];rfl) j u hu;rw[Addr.add_lit,Nat.zero_add]at this;exact this
def inN(ns:List JN)(z:Int)(i:Nat):Bool:=match ns[i]? with
 |some n=>decide ((n.a:Int)<=z)&&decide (z<(n.b:Int))
 |none=>false
def pathTo(ns:List JN)(z:Int)(k:Nat):List Nat:=(List.range k).filter (inN ns z)
def PathPost(B:Nat)(l:List Nat)(e:Ending)(W':World):Prop:= ∃v,e= .returned (.tuple #[v,.bool (decide (0<l.length))])/\W'.ownsRow B 3 1 v l.length (kidC l)
def zx8(s:ByteArray)(a b:Int):ByteArray:=(zJ s a b).1
theorem zM(s:ByteArray)(vN:Value)(hvs: ∃o n c,vN= .slice o n c)(a b:Int)(W:World)(hs:s.size<=maxLen)(ha:-9223372036854775808<=a/\a<=9223372036854775807)(hb:-9223372036854775808<=b/\b<=9223372036854775807):
 Calls Tryz.prog 156 #[.agg #[.string s,vN],.agg #[.int .i64 a,.int .i64 b]] W fun e W'=>e= .returned (.string (zx8 s a b))/\Below W.heap.size W W':=by
 obtain⟨o,n,c,rfl⟩:=hvs;have hb1:=za0 W (.cells #[.string s,.slice o n c] 78);have hb2:=za0 (W.alloc (.cells #[.string s,.slice o n c] 78)) (.cells #[.int .i64 a,.int .i64 b] 44);have HC:=hq (text4_any s 0 a b ((W.alloc (.cells #[.string s,.slice o n c] 78)).alloc (.cells #[.int .i64 a,.int .i64 b] 44)) hs ha hb);unfold TextPost at HC;have HM:Hq (zx8 s a b=(zJ s a b).1):=hq rfl;generalize zJ s a b=T at *;obtain⟨t1,t2⟩:=T;generalize zx8 s a b=SM at *;have HBB:=hq (za hb1 hb2);simp only at HC HM;clear hb1 hb2;go_enter Tryz.func156,Tryz.ntmps156
 go_wp2_with fail
 refine HC.o.mono ?_;rintro e W2 ⟨rfl,hb3⟩;have HB3:=hq (za HBB.o hb3);clear hb3 HC;go_wp2_with fail
 go_ret
 exact⟨by rw[HM.o];rfl,HB3.o⟩
theorem zA0(s:ByteArray)(vN:Value)(hvs: ∃o n c,vN= .slice o n c)(a b:Int)(W:World)(_hs:s.size<=maxLen):
 Calls Tryz.prog 121 #[.agg #[.string s,vN],.agg #[.int .i64 a,.int .i64 b]] W fun e W'=>e= .returned (.string (zx8 s a b))/\Below W.heap.size W W':=by
 obtain⟨o,n,c,rfl⟩:=hvs;have hb1:=za0 W (.cells #[.string s,.slice o n c] 78);have hb2:=za0 (W.alloc (.cells #[.string s,.slice o n c] 78)) (.cells #[.int .i64 a,.int .i64 b] 44);have HBB:=hq (za hb1 hb2);have w1:=((Whole.made W 78 #[.string s,.slice o n c]).alloc (.cells #[.int .i64 a,.int .i64 b] 44));have w2:=Whole.made (W.alloc (.cells #[.string s,.slice o n c] 78)) 44 #[.int .i64 a,.int .i64 b];rw[World.size_alloc]at w2;have c0:=w1.at_ 0;have d0:=w2.at_ 0;have d1:=w2.at_ 1;have HM:Hq (zx8 s a b=(zJ s a b).1):=hq rfl;have HT:Hq (zJ s a b=if a<0\/b<a\/(s.size:Int)<b then(⟨#[]⟩,false) else(s.extract a.toNat b.toNat,true)):=hq rfl;clear hb1 hb2 w1 w2;generalize zx8 s a b=SM at *;generalize zJ s a b=T at *;go_enter Tryz.func121,Tryz.ntmps121
 by_cases h1:a<0
 ·have HS:Hq (SM=⟨#[]⟩):=hq (by rw[HM.o,HT.o,if_pos (.inl h1)]);go_wp2_with fail
  go_ret
  exact⟨by rw[HS.o];rfl,HBB.o⟩
 ·by_cases h2:b<a
  ·have HS:Hq (SM=⟨#[]⟩):=hq (by rw[HM.o,HT.o,if_pos (.inr (.inl h2))]);go_wp2_with fail
   go_ret
   exact⟨by rw[HS.o];rfl,HBB.o⟩
  ·by_cases h3:(s.size:Int)<b
   ·have HS:Hq (SM=⟨#[]⟩):=hq (by rw[HM.o,HT.o,if_pos (.inr (.inr h3))]);go_wp2_with fail
    go_ret
    exact⟨by rw[HS.o];rfl,HBB.o⟩
   ·have HS:Hq (SM=s.extract a.toNat b.toNat):=hq (by rw[HM.o,HT.o,if_neg (by omega)]);have h4:0<=a:=by omega
    have h5:a<=b:=by omega
    have h6:b<=(s.size:Int):=by omega
    go_wp2_with fail
    go_ret
    exact⟨by rw[HS.o];rfl,HBB.o⟩
end Go.Proofs.YtkafjblfjdpdaaaGreatDoor
