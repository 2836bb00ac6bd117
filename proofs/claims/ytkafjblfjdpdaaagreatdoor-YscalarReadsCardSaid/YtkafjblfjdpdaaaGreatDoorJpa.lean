/-
  MEMORY of the document's parser (scarfref05): its tokens, its nodes, their kids and pieces.
  PLAIN MATHEMATICS of JsonWhole, by indexes: the kids of a node and their pieces, one behind the other; how many kids there are up to a node; cells of a row of spans.
  WALKS: the document's parser: kind, here, wrong, sign, scalar.
  WALKS: the document's parser: key.
  WALKS: the document's parser: what value and kids answer; value over kids.
  WALKS: the document's parser: kids; value, at every level.
  WALK: the document's Parse of layer 5, whole.
-/
import Derived.Test.YtkafjblfjdpdaaaGreatDoorJsa
import Derived.Test.YtkafjblfjdpdaaaGreatDoorJwM
import Derived.Test.YtkafjblfjdpdaaaGreatDoorRlx
set_option maxHeartbeats 4000000
set_option maxRecDepth 1000000
namespace Go.Proofs.YtkafjblfjdpdaaaGreatDoor
open Go.RowKit
def opQ(o:Op):Op:=o
structure Pd(w0:World)(g:Nat)(s:ByteArray)(L:List Tok)(vL:Value)(k:Nat)(r:RS)(W:World):Prop where
 blk:Whole W g 143 #[.string s,vL,.int .i64 (k:Int),r.vN,.int .i64 r.wh,.int .i64 r.er]
 tk:W.ownsRow w0.heap.size 131 3 vL L.length (zd7 L)
 tl: ∀t∈L,t.2.1<=t.2.2/\t.2.2<=s.size
 tm:k<=L.length
 nd:W.ownsRow w0.heap.size 149 7 r.vN r.nv.length (zd4 r.nv)
 kr: ∀i (hi:i<r.nv.length),W.ownsRow w0.heap.size 3 1 r.nv[i].k r.nv[i].n.kids.length (kidC r.nv[i].n.kids)
 pr: ∀i (hi:i<r.nv.length),W.ownsRow w0.heap.size 44 2 r.nv[i].p r.nv[i].n.pcs.length (pcC r.nv[i].n.pcs)
 ak: ∀i j (hi:i<r.nv.length) (hj:j<r.nv.length),i≠j-> ∀q,r.nv[i].k.ownBlock=some q->r.nv[j].k.ownBlock≠some q
 ap: ∀i j (hi:i<r.nv.length) (hj:j<r.nv.length),i≠j-> ∀q,r.nv[i].p.ownBlock=some q->r.nv[j].p.ownBlock≠some q
 bl:Below w0.heap.size w0 W
 gl:w0.heap.size<=g
 n4:r.nv.length<=4096
 kl: ∀i (hi:i<r.nv.length),r.nv[i].n.kids.length<=r.nv.length/\r.nv[i].n.pcs.length<=r.nv.length
section
variable {w0 W W':World} {g:Nat} {s:ByteArray} {L:List Tok} {vL:Value} {k0:Nat} {r:RS}
theorem Pd.own_lt(h:Pd w0 g s L vL k0 r W): ∀k,r.own g k->w0.heap.size<=k/\k<W.heap.size:=fun k hk=>by
 rcases hk with rfl|hk|⟨i,hi,hk|hk⟩
 ·exact ⟨h.gl,h.blk.lt⟩
 ·exact h.nd.lt k hk
 ·exact (h.kr i hi).lt k hk
 ·exact (h.pr i hi).lt k hk
theorem Pd.grow(h:Pd w0 g s L vL k0 r W)(hb:Below W.heap.size W W'):Pd w0 g s L vL k0 r W':=by
 have hg:W.grownBy W' none:=⟨hb.os,hb.tape,hb.output,hb.size,fun j hj _=>hb.block j hj⟩;have hn: ∀(v:Value) (b:Nat),(none:Option Nat)=some b->v.ownBlock≠some b:=fun v b e=>by cases e
 exact⟨h.blk.grow hb,za5 h.tk hg (hn _),h.tl,h.tm,za5 h.nd hg (hn _),fun i hi=>za5 (h.kr i hi) hg (hn _),fun i hi=>za5 (h.pr i hi) hg (hn _),h.ak,h.ap,h.bl.trans (hb.mono h.bl.size),h.gl,h.n4,h.kl⟩
theorem Pd.ng(h:Pd w0 g s L vL k0 r W):r.vN.ownBlock≠some g:=zc1 h.nd h.blk (by decide)
theorem Pd.kg(h:Pd w0 g s L vL k0 r W) {i:Nat} (hi:i<r.nv.length):r.nv[i].k.ownBlock≠some g:=zc1 (h.kr i hi) h.blk (by decide)
theorem Pd.pg(h:Pd w0 g s L vL k0 r W) {i:Nat} (hi:i<r.nv.length):r.nv[i].p.ownBlock≠some g:=zc1 (h.pr i hi) h.blk (by decide)
theorem Pd.tg(h:Pd w0 g s L vL k0 r W):vL.ownBlock≠some g:=zc1 h.tk h.blk (by decide)
theorem Pd.put(h:Pd w0 g s L vL k0 r W)(i:Nat)(u:Value):(W.setCell ⟨g,i,none⟩ u).ownsRow w0.heap.size 149 7 r.vN r.nv.length (zd4 r.nv)/\
 (∀j (hj:j<r.nv.length),(W.setCell ⟨g,i,none⟩ u).ownsRow w0.heap.size 3 1 r.nv[j].k r.nv[j].n.kids.length (kidC r.nv[j].n.kids))/\(∀j (hj:j<r.nv.length),(W.setCell ⟨g,i,none⟩ u).ownsRow w0.heap.size 44 2 r.nv[j].p r.nv[j].n.pcs.length (pcC r.nv[j].n.pcs))/\Below w0.heap.size w0 (W.setCell ⟨g,i,none⟩ u)/\(W.setCell ⟨g,i,none⟩ u).ownsRow w0.heap.size 131 3 vL L.length (zd7 L):=by
 have hg:=zi6 W ⟨g,i,none⟩ u;have hne: ∀(v:Value),v.ownBlock≠some g-> ∀b,some (⟨g,i,none⟩:Addr).block=some b->v.ownBlock≠some b:=fun v hv b e=>by cases e;exact hv
 exact⟨za5 h.nd hg (hne _ h.ng),fun j hj=>za5 (h.kr j hj) hg (hne _ (h.kg hj)),fun j hj=>za5 (h.pr j hj) hg (hne _ (h.pg hj)),h.bl.setCell h.gl u,za5 h.tk hg (hne _ h.tg)⟩
theorem Pd.step(h:Pd w0 g s L vL k0 r W) {k1:Nat} (hk:k1<=L.length):Pd w0 g s L vL k1 r (W.setCell ⟨g,2,none⟩ (.int .i64 (k1:Int))):=by
 obtain⟨h1,h2,h3,h4,h5⟩:=h.put 2 (.int .i64 (k1:Int));exact⟨h.blk.put 2 _,h5,h.tl,hk,h1,h2,h3,h.ak,h.ap,h4,h.gl,h.n4,h.kl⟩
theorem Pd.fail(h:Pd w0 g s L vL k0 r W)(wh er:Int):Pd w0 g s L vL k0 {r with wh:=wh,er:=er} ((W.setCell ⟨g,4,none⟩ (.int .i64 wh)).setCell ⟨g,5,none⟩ (.int .i64 er)):=by
 obtain⟨h1,h2,h3,h4,h5⟩:=h.put 4 (.int .i64 wh);have hr1:Pd w0 g s L vL k0 {r with wh:=wh} (W.setCell ⟨g,4,none⟩ (.int .i64 wh)):=⟨h.blk.put 4 _,h5,h.tl,h.tm,h1,h2,h3,h.ak,h.ap,h4,h.gl,h.n4,h.kl⟩;obtain⟨k1,k2,k3,k4,k5⟩:=hr1.put 5 (.int .i64 er);exact⟨hr1.blk.put 5 _,k5,h.tl,h.tm,k1,k2,k3,h.ak,h.ap,k4,h.gl,h.n4,h.kl⟩
theorem Fr.fail2(r:RS)(g:Nat)(W:World)(wh er:Int):Fr (r.own g) (r.own g) W ((W.setCell ⟨g,4,none⟩ (.int .i64 wh)).setCell ⟨g,5,none⟩ (.int .i64 er)):=((Fr.refl _ _).set (.inl rfl) _).set (.inl rfl) _
theorem Pd.app(h:Pd w0 g s L vL k0 r W) {n:JN} {v':Value} (hk:n.kids=[])(hp:n.pcs=[])(h4:r.nv.length<4096)(hown:W'.ownsRow w0.heap.size 149 7 v' (r.nv.length+1) (zd4 (r.nv++[newN n])))(hg:W.grownBy W' r.vN.ownBlock)(hat:v'.ownBlock=r.vN.ownBlock\/v'.ownBlock=some W.heap.size):
 Pd w0 g s L vL k0 (r.app n v') (W'.setCell ⟨g,3,none⟩ v')/\Fr (r.own g) ((r.app n v').own g) W (W'.setCell ⟨g,3,none⟩ v'):=by
 have hblk:Whole W' g 143 #[.string s,vL,.int .i64 (k0:Int),r.vN,.int .i64 r.wh,.int .i64 r.er]:=ze8 h.blk hg fun b e hb=>h.ng (by rw[e,hb])
 have hg2:=zi6 W' ⟨g,3,none⟩ v';have hkk: ∀i (hi:i<r.nv.length),(W'.setCell ⟨g,3,none⟩ v').ownsRow w0.heap.size 3 1 r.nv[i].k r.nv[i].n.kids.length (kidC r.nv[i].n.kids):=fun i hi=>za5 (za5 (h.kr i hi) hg fun b e=>zb1 h.nd (h.kr i hi) (by decide) b e) hg2 fun b e=>by cases e;exact h.kg hi
 have hpp: ∀i (hi:i<r.nv.length),(W'.setCell ⟨g,3,none⟩ v').ownsRow w0.heap.size 44 2 r.nv[i].p r.nv[i].n.pcs.length (pcC r.nv[i].n.pcs):=fun i hi=>za5 (za5 (h.pr i hi) hg fun b e=>zb1 h.nd (h.pr i hi) (by decide) b e) hg2 fun b e=>by cases e;exact h.pg hi
 have hv'g:v'.ownBlock≠some g:=zc1 hown hblk (by decide);have hbl:Below w0.heap.size w0 (W'.setCell ⟨g,3,none⟩ v'):=(h.bl.grown hg h.bl.size fun k e=>(h.nd.lt k e).1).setCell h.gl v';have hcs: ∀i (hi:i<(r.nv++[newN n]).length),(∃hi':i<r.nv.length,(r.nv++[newN n])[i]=r.nv[i])\/(r.nv++[newN n])[i]=newN n:=fun i hi=>by
  by_cases hlt:i<r.nv.length
  ·exact .inl ⟨hlt,List.getElem_append_left hlt⟩
  ·refine .inr ?_;rw[List.getElem_append_right (by omega)];simp
 have hnew: ∀q,¬((newN n).k.ownBlock=some q\/(newN n).p.ownBlock=some q):=fun q hq=>by rcases hq with hq|hq<;>cases hq
 refine⟨⟨hblk.put 3 _,za5 (za5 h.tk hg fun b e=>zb1 h.nd h.tk (by decide) b e) hg2 (fun b e=>by cases e;exact h.tg),h.tl,h.tm,?_,?_,?_,?_,?_,hbl,h.gl,?_,?_⟩,?_⟩
 ·have e:(r.app n v').nv.length=r.nv.length+1:=by unfold RS.app;simp
  rw[e];exact za5 hown hg2 fun b e=>by cases e;exact hv'g
 ·intro i hi;rcases hcs i hi with ⟨hi',e⟩|e
  ·rw[show (r.app n v').nv[i]=r.nv[i] from e];exact hkk i hi'
  ·rw[show (r.app n v').nv[i]=newN n from e];simp only[newN,hk];exact World.ownsRow_nil _ _ _ _
 ·intro i hi;rcases hcs i hi with ⟨hi',e⟩|e
  ·rw[show (r.app n v').nv[i]=r.nv[i] from e];exact hpp i hi'
  ·rw[show (r.app n v').nv[i]=newN n from e];simp only[newN,hp];exact World.ownsRow_nil _ _ _ _
 ·intro i j hi hj hne q hq hq';simp only[RS.app]at hi hj hq hq';rcases hcs i hi with ⟨hi',e⟩|e
  ·rcases hcs j hj with ⟨hj',e2⟩|e2
   ·rw[e]at hq;rw[e2]at hq';exact h.ak i j hi' hj' hne q hq hq'
   ·rw[e2]at hq';exact hnew q (.inl hq')
  ·rw[e]at hq;exact hnew q (.inl hq)
 ·intro i j hi hj hne q hq hq';simp only[RS.app]at hi hj hq hq';rcases hcs i hi with ⟨hi',e⟩|e
  ·rcases hcs j hj with ⟨hj',e2⟩|e2
   ·rw[e]at hq;rw[e2]at hq';exact h.ap i j hi' hj' hne q hq hq'
   ·rw[e2]at hq';exact hnew q (.inr hq')
  ·rw[e]at hq;exact hnew q (.inr hq)
 ·unfold RS.app;rw[List.length_append,List.length_singleton];exact h4
 ·intro i hi;have el:(r.app n v').nv.length=r.nv.length+1:=by unfold RS.app;simp
  rw[el];rcases hcs i hi with ⟨hi',e⟩|e
  ·rw[show (r.app n v').nv[i]=r.nv[i] from e];have:=h.kl i hi';omega
  ·rw[show (r.app n v').nv[i]=newN n from e];simp[newN,hk,hp]
 ·have hown': ∀k,(r.app n v').own g k->r.own g k\/W.heap.size<=k:=fun k hk=>by
   rcases hk with rfl|hk|⟨i,hi,hk⟩
   ·exact .inl (.inl rfl)
   ·rcases hat with e|e
    ·exact .inl (.inr (.inl (e.symm.trans hk)))
    ·have hk2:v'.ownBlock=some k:=hk;rw[e]at hk2;exact .inr (Nat.le_of_eq (Option.some.inj hk2))
   ·simp only[RS.app]at hi hk;rcases hcs i hi with ⟨hi',e⟩|e
    ·rw[e]at hk;exact .inl (.inr (.inr ⟨i,hi',hk⟩))
    ·rw[e]at hk;exact absurd hk (hnew k)
  exact((Fr.refl _ _).grown hg (fun k e=> .inr (.inl e)) hown').set (.inl rfl) v'
theorem Pd.node(h:Pd w0 g s L vL k0 r W) {k:Nat} (hk:k<r.nv.length): ∃gN cap,r.vN= .slice (some ⟨gN,0,none⟩) r.nv.length cap/\r.nv.length<=cap/\cap<=maxLen/\(∀o,W.frozen? ⟨gN,o,none⟩=false)/\ ∀j,j<7->W.cell? ⟨gN,k*7+j,none⟩=(ze r.nv[k])[j]?:=by
 rcases h.nd.2 with ⟨_,h0⟩|⟨gN,cap,cur,hv,hg,hh,hc,hm,_⟩
 ·omega
 ·refine ⟨gN,cap,hv,hc,hm,fun o=>frozen_of_row W gN o cur _ hh,fun j hj=> ?_⟩;have hcl:=h.nd.cells (g:=gN) (by rw[hv];rfl) (k*7+j);have ha:=zt0 r.nv k j hk hj;have e1:(⟨gN,0,none⟩:Addr).add (k*7+j)=⟨gN,k*7+j,none⟩:=by rw[Addr.add_lit,Nat.zero_add]
  rw[e1,ha]at hcl;cases hx:(ze r.nv[k])[j]? with
  |none=>
   have:=List.getElem?_eq_none_iff.1 hx;simp[ze]at this;omega
  |some u=>exact hcl u hx
theorem Pd.upd(h:Pd w0 g s L vL k0 r W) {k:Nat} (hk:k<r.nv.length) {x:NV} {j:Nat} {u:Value} {row:Option Nat} {gN cap:Nat} (hvN:r.vN= .slice (some ⟨gN,0,none⟩) r.nv.length cap)(hj:j<7)(hx:ze x=(ze r.nv[k]).set j u)(hg:W.grownBy W' row)
 (hrow:row=none\/(row=r.nv[k].k.ownBlock/\x.p=r.nv[k].p/\x.n.pcs=r.nv[k].n.pcs)\/(row=r.nv[k].p.ownBlock/\x.k=r.nv[k].k/\x.n.kids=r.nv[k].n.kids))
 (hkr:W'.ownsRow w0.heap.size 3 1 x.k x.n.kids.length (kidC x.n.kids)) (hpr:W'.ownsRow w0.heap.size 44 2 x.p x.n.pcs.length (pcC x.n.pcs))
 (hak:x.k.ownBlock=r.nv[k].k.ownBlock\/x.k.ownBlock=some W.heap.size) (hap:x.p.ownBlock=r.nv[k].p.ownBlock\/x.p.ownBlock=some W.heap.size) (hkl:x.n.kids.length<=r.nv.length/\x.n.pcs.length<=r.nv.length):
 Pd w0 g s L vL k0 (r.upd k x) (W'.setCell ⟨gN,k*7+j,none⟩ u)/\Fr (r.own g) ((r.upd k x).own g) W (W'.setCell ⟨gN,k*7+j,none⟩ u):=by
 have hNo:r.vN.ownBlock=some gN:=by rw[hvN];rfl
 have hg2:=zi6 W' ⟨gN,k*7+j,none⟩ u;have hrowo: ∀b,row=some b->r.own g b:=fun b e=>by
  rcases hrow with e2|⟨e2,_⟩|⟨e2,_⟩
  ·rw[e2]at e;cases e
  ·exact .inr (.inr ⟨k,hk,.inl (e2.symm.trans e)⟩)
  ·exact .inr (.inr ⟨k,hk,.inr (e2.symm.trans e)⟩)
 have hrg: ∀b,row=some b->b≠g:=fun b e hb=>by
  subst hb;rcases hrow with e2|⟨e2,_⟩|⟨e2,_⟩
  ·rw[e2]at e;cases e
  ·exact h.kg hk (e2.symm.trans e)
  ·exact h.pg hk (e2.symm.trans e)
 have hrn: ∀b,row=some b->r.vN.ownBlock≠some b:=fun b e=>by
  rcases hrow with e2|⟨e2,_⟩|⟨e2,_⟩
  ·rw[e2]at e;cases e
  ·exact fun e3=>zb1 (h.kr k hk) h.nd (by decide) b (e2.symm.trans e) e3
  ·exact fun e3=>zb1 (h.pr k hk) h.nd (by decide) b (e2.symm.trans e) e3
 have hnd':W'.ownsRow w0.heap.size 149 7 r.vN r.nv.length (zd4 r.nv):=za5 h.nd hg hrn;have hki: ∀i (hi:i<r.nv.length),i≠k->W'.ownsRow w0.heap.size 3 1 r.nv[i].k r.nv[i].n.kids.length (kidC r.nv[i].n.kids):=fun i hi hne=>za5 (h.kr i hi) hg fun b e=>by
  rcases hrow with e2|⟨e2,_⟩|⟨e2,_⟩
  ·rw[e2]at e;cases e
  ·exact h.ak k i hk hi (Ne.symm hne) b (e2.symm.trans e)
  ·exact zb1 (h.pr k hk) (h.kr i hi) (by decide) b (e2.symm.trans e)
 have hpi: ∀i (hi:i<r.nv.length),i≠k->W'.ownsRow w0.heap.size 44 2 r.nv[i].p r.nv[i].n.pcs.length (pcC r.nv[i].n.pcs):=fun i hi hne=>za5 (h.pr i hi) hg fun b e=>by
  rcases hrow with e2|⟨e2,_⟩|⟨e2,_⟩
  ·rw[e2]at e;cases e
  ·exact zb1 (h.kr k hk) (h.pr i hi) (by decide) b (e2.symm.trans e)
  ·exact h.ap k i hk hi (Ne.symm hne) b (e2.symm.trans e)
 have hs: ∀ {e size n:Nat} {v:Value} {xs:List Value},W'.ownsRow w0.heap.size e size v n xs->e≠149->(W'.setCell ⟨gN,k*7+j,none⟩ u).ownsRow w0.heap.size e size v n xs:=fun ho hne=>za5 ho hg2 fun b e=>by
  cases e;exact fun e3=>zb1 ho hnd' hne gN e3 hNo
 have hlen:(r.upd k x).nv.length=r.nv.length:=List.length_set ..;have hget: ∀i (hi:i<(r.upd k x).nv.length),(i=k/\(r.upd k x).nv[i]=x)\/(i≠k/\ ∃hi':i<r.nv.length,(r.upd k x).nv[i]=r.nv[i]):=fun i hi=>by
  by_cases e:i=k
  ·subst e;exact .inl ⟨rfl,List.getElem_set_self (l:=r.nv) (by rw[List.length_set];exact hk)⟩
  ·refine .inr ⟨e,by rw[hlen]at hi;exact hi,?_⟩;exact List.getElem_set_ne (l:=r.nv) (fun e2=>e e2.symm) (by rw[List.length_set];rw[hlen]at hi;exact hi)
 have hblk:Whole (W'.setCell ⟨gN,k*7+j,none⟩ u) g 143 #[.string s,vL,.int .i64 (k0:Int),r.vN,.int .i64 r.wh,.int .i64 r.er]:=ze8 (ze8 h.blk hg hrg) hg2 fun b e hb=>by
  cases e;exact h.ng (hNo.trans (congrArg some hb))
 have hgNl:w0.heap.size<=gN:=(h.nd.lt gN hNo).1;have hsz:=hg.size;have htk:W'.ownsRow w0.heap.size 131 3 vL L.length (zd7 L):=za5 h.tk hg fun b e=>by
  rcases hrow with e2|⟨e2,_⟩|⟨e2,_⟩
  ·rw[e2]at e;cases e
  ·exact zb1 (h.kr k hk) h.tk (by decide) b (e2.symm.trans e)
  ·exact zb1 (h.pr k hk) h.tk (by decide) b (e2.symm.trans e)
 refine⟨⟨hblk,hs htk (by decide),h.tl,h.tm,?_,?_,?_,?_,?_,?_,h.gl,by rw[hlen];exact h.n4,?_⟩,?_⟩
 ·show (W'.setCell ⟨gN,k*7+j,none⟩ u).ownsRow w0.heap.size 149 7 r.vN (r.upd k x).nv.length (zd4 (r.nv.set k x));rw[hlen,zy4 r.nv k j u x hk hj hx];rw[hvN]at hnd' ⊢;rcases row_putc hnd' (k*7+j) u with h1|h1
  ·exact h1
  ·omega
 ·intro i hi;rcases hget i hi with ⟨_,e⟩|⟨hne,hi',e⟩
  ·rw[e];exact hs hkr (by decide)
  ·rw[e];exact hs (hki i hi' hne) (by decide)
 ·intro i hi;rcases hget i hi with ⟨_,e⟩|⟨hne,hi',e⟩
  ·rw[e];exact hs hpr (by decide)
  ·rw[e];exact hs (hpi i hi' hne) (by decide)
 ·intro i i' hi hi' hne q hq hq';rcases hget i hi with ⟨e0,e⟩|⟨hne1,hi1,e⟩<;>rcases hget i' hi' with ⟨e0',e'⟩|⟨hne2,hi2,e'⟩
  ·omega
  ·rw[e]at hq;rw[e']at hq';rcases hak with ea|ea
   ·exact h.ak k i' hk hi2 (fun e=>hne2 e.symm) q (ea.symm.trans hq) hq'
   ·have:=((h.kr i' hi2).lt q hq').2;rw[ea]at hq;have:=Option.some.inj hq;omega
  ·rw[e]at hq;rw[e']at hq';rcases hak with ea|ea
   ·exact h.ak i k hi1 hk hne1 q hq (ea.symm.trans hq')
   ·have:=((h.kr i hi1).lt q hq).2;rw[ea]at hq';have:=Option.some.inj hq';omega
  ·rw[e]at hq;rw[e']at hq';exact h.ak i i' hi1 hi2 hne q hq hq'
 ·intro i i' hi hi' hne q hq hq';rcases hget i hi with ⟨e0,e⟩|⟨hne1,hi1,e⟩<;>rcases hget i' hi' with ⟨e0',e'⟩|⟨hne2,hi2,e'⟩
  ·omega
  ·rw[e]at hq;rw[e']at hq';rcases hap with ea|ea
   ·exact h.ap k i' hk hi2 (fun e=>hne2 e.symm) q (ea.symm.trans hq) hq'
   ·have:=((h.pr i' hi2).lt q hq').2;rw[ea]at hq;have:=Option.some.inj hq;omega
  ·rw[e]at hq;rw[e']at hq';rcases hap with ea|ea
   ·exact h.ap i k hi1 hk hne1 q hq (ea.symm.trans hq')
   ·have:=((h.pr i hi1).lt q hq).2;rw[ea]at hq';have:=Option.some.inj hq';omega
  ·rw[e]at hq;rw[e']at hq';exact h.ap i i' hi1 hi2 hne q hq hq'
 ·exact (h.bl.grown hg h.bl.size fun b e=>(h.own_lt b (hrowo b e)).1).setCell hgNl u
 ·intro i hi;rw[hlen];rcases hget i hi with ⟨_,e⟩|⟨hne,hi',e⟩
  ·rw[e];exact hkl
  ·rw[e];exact h.kl i hi'
 ·have hown': ∀b,(r.upd k x).own g b->r.own g b\/W.heap.size<=b:=fun b hb=>by
   rcases hb with rfl|hb|⟨i,hi,hb⟩
   ·exact .inl (.inl rfl)
   ·exact .inl (.inr (.inl hb))
   ·rcases hget i hi with ⟨_,e⟩|⟨hne,hi',e⟩
    ·rw[e]at hb;rcases hb with hb|hb
     ·rcases hak with ea|ea
      ·exact .inl (.inr (.inr ⟨k,hk,.inl (ea.symm.trans hb)⟩))
      ·rw[ea]at hb;exact .inr (Nat.le_of_eq (Option.some.inj hb))
     ·rcases hap with ea|ea
      ·exact .inl (.inr (.inr ⟨k,hk,.inr (ea.symm.trans hb)⟩))
      ·rw[ea]at hb;exact .inr (Nat.le_of_eq (Option.some.inj hb))
    ·rw[e]at hb;exact .inl (.inr (.inr ⟨i,hi',hb⟩))
  have hmem:(r.upd k x).own g (⟨gN,k*7+j,none⟩:Addr).block:= .inr (.inl hNo);exact((Fr.refl _ _).grown hg hrowo hown').set hmem u
end
def atK(a:Nat)(pcs:List (Nat×Nat)):Nat->Nat
 |0=>a
 |q+1=>((pcs[q]?).map fun p=>p.2+1).getD 0
section
variable {s:ByteArray} {ns:List JN} {ob:Bool} {k a:Nat} {kids:List Nat} {pcs:List (Nat×Nat)} {m:Nat}
theorem Kds.len(h:Kds s ns ob k a kids pcs m):pcs.length=kids.length:=by
 induction h with
 |nil=>rfl
 |snoc _ _ _ _ ih=>simp[ih]
theorem Kds.last(h:Kds s ns ob k a kids pcs m):atK a pcs kids.length=m:=by
 cases h with
 |nil=>rfl
 | @snoc kids pcs m j t h1 _ _ _=>
   rw[List.length_append,List.length_singleton];have e:=h1.len;show(((pcs++[(m,t)])[kids.length]?).map fun p=>p.2+1).getD 0=t+1;rw[List.getElem?_append_right (by omega),e];simp
theorem Kds.le(h:Kds s ns ob k a kids pcs m):a<=m:=by
 induction h with
 |nil=>exact Nat.le_refl _
 |snoc _ _ h3 _ ih=>omega
structure KAt(s:ByteArray)(ns:List JN)(ob:Bool)(k a:Nat)(kids:List Nat)(pcs:List (Nat×Nat))(m q j:Nat)(p:Nat×Nat):Prop where
 kid:kids[q]?=some j
 pc:pcs[q]?=some p
 in_:KidIn ns ob k j p
 at_:p.1=atK a pcs q
 next:p.2+1=atK a pcs (q+1)
 le:p.2<m
 cm:q+1<kids.length->byt s p.2=44
end
def sumTo(ns:List JN)(k:Nat):Nat:=sumK (ns.take k)
theorem below_drewN {B:Nat} {a w:World} (h:Below B a w)(n:Nat):Below B a (w.drewN n):=⟨h.os,h.tape,h.output,h.size,h.block⟩
def zb0(L:List Tok)(k:Nat):Nat:=((L[k]?).map fun t=>t.1).getD 0
def zc4(s:ByteArray)(L:List Tok)(k:Nat):Nat:=((L[k]?).map fun t=>t.2.1).getD s.size
section
variable {w0 W:World} {g:Nat} {s:ByteArray} {L:List Tok} {vL:Value} {k:Nat} {r:RS}
theorem Pd.cells(h:Pd w0 g s L vL k r W): ∃a c na nc,vL= .slice a L.length c/\r.vN= .slice na r.nv.length nc/\W.cell? ⟨g,0,none⟩=some (.string s)/\W.cell? ⟨g,1,none⟩=some (.slice a L.length c)/\W.cell? ⟨g,2,none⟩=some (.int .i64 (k:Int))/\W.cell? ⟨g,3,none⟩=some (.slice na r.nv.length nc)/\
 W.cell? ⟨g,4,none⟩=some (.int .i64 r.wh)/\W.cell? ⟨g,5,none⟩=some (.int .i64 r.er)/\ ∀i,W.frozen? ⟨g,i,none⟩=false:=by
 obtain⟨a,c,e1⟩:=ze6 h.tk;obtain⟨na,nc,e2⟩:=ze6 h.nd;refine⟨a,c,na,nc,e1,e2,h.blk.at_ 0,?_,h.blk.at_ 2,?_,h.blk.at_ 4,h.blk.at_ 5,h.blk.free⟩
 ·rw[←e1];exact h.blk.at_ 1
 ·rw[←e2];exact h.blk.at_ 3
theorem Pd.tl9(h:Pd w0 g s L vL k r W):L.length<=maxLen:=by
 rcases h.tk.2 with ⟨_,h0⟩|⟨q,cap,cur,hv,_,_,hc,hm,_⟩
 ·rw[h0];exact Nat.zero_le _
 ·exact Nat.le_trans hc hm
theorem Pd.tok(h:Pd w0 g s L vL k r W) {i:Nat} (hi:i<L.length): ∃gT c,vL= .slice (some ⟨gT,0,none⟩) L.length c/\W.cell? ⟨gT,i*3,none⟩=some (.int .i64 (L[i].1:Int))/\W.cell? ⟨gT,i*3+1,none⟩=some (.int .i64 (L[i].2.1:Int))/\W.cell? ⟨gT,i*3+2,none⟩=some (.int .i64 (L[i].2.2:Int)):=by
 obtain⟨n,hn⟩: ∃n,L.length=n+1:=⟨L.length-1,by omega⟩;have h1:=h.tk;rw[hn]at h1;obtain⟨gT,c,hv,_,_,hc⟩:=zL0 h1;obtain⟨q1,q2,q3⟩:=zE4 L i _ (List.getElem?_eq_getElem hi);exact⟨gT,c,by rw[hv,hn],hc _ _ q1,hc _ _ q2,hc _ _ q3⟩
end
theorem zy1 {w0 W:World} {g:Nat} {s:ByteArray} {L:List Tok} {vL:Value} {k:Nat} {r:RS} (h:Pd w0 g s L vL k r W):
 Calls Tryz.prog 161 #[.pointer (some ⟨g,0,none⟩)] W fun e W'=>e= .returned (.int .i64 (zb0 L k:Int))/\Below W.heap.size W W':=by
 obtain⟨a,c,na,nc,e1,e2,c0,c1,c2,c3,c4,c5,cf⟩:=h.cells;have hkl:=h.tm;by_cases hk:k<L.length
 ·obtain ⟨gT,cT,e3,t0,t1,t2⟩:=h.tok hk;rw[e1]at e3;cases e3;have HK:Hq (zb0 L k=L[k].1):=hq (by unfold zb0;rw[List.getElem?_eq_getElem hk];rfl);have hkz: ¬(L.length:Int)<=(k:Int):=by omega
  have hkb:decide ((L.length:Int)<=(k:Int))=false:=decide_eq_false hkz;have hkz2:(k:Int)<(L.length:Int):=by omega
  have HB:=hq (fun n m=>below_drewN (below_drewN (Below.refl W.heap.size W) n) m);clear h e1 e2;generalize zb0 L k=kk at *;generalize L[k].1=q1 at *;go_enter Tryz.func161,Tryz.ntmps161
  go_wp2_with fail
  go_big_quiet (fail)
  go_wp2_with fail
  go_big_quiet (fail)
  go_wp2_with fail
  go_ret
  exact⟨by rw[HK.o];rfl,HB.o _ _⟩
 ·have HK:Hq (zb0 L k=0):=hq (by unfold zb0;rw[List.getElem?_eq_none (by omega)];rfl);have hkz:(L.length:Int)<=(k:Int):=by omega
  clear h e1 e2;generalize zb0 L k=kk at *;go_enter Tryz.func161,Tryz.ntmps161
  go_wp2_with fail
  go_big_quiet (fail)
  go_wp2_with fail
  go_ret
  exact⟨by rw[HK.o];rfl,below_drewN (Below.refl _ _) _⟩
theorem zG7 {w0 W:World} {g:Nat} {s:ByteArray} {L:List Tok} {vL:Value} {k:Nat} {r:RS} (h:Pd w0 g s L vL k r W):
 Calls Tryz.prog 163 #[.pointer (some ⟨g,0,none⟩)] W fun e W'=>e= .returned (.int .i64 (zc4 s L k:Int))/\Below W.heap.size W W':=by
 obtain⟨a,c,na,nc,e1,e2,c0,c1,c2,c3,c4,c5,cf⟩:=h.cells;have hkl:=h.tm;by_cases hk:k<L.length
 ·obtain ⟨gT,cT,e3,t0,t1,t2⟩:=h.tok hk;rw[e1]at e3;cases e3;have HK:Hq (zc4 s L k=L[k].2.1):=hq (by unfold zc4;rw[List.getElem?_eq_getElem hk];rfl);have hkz: ¬(L.length:Int)<=(k:Int):=by omega
  have hkb:decide ((L.length:Int)<=(k:Int))=false:=decide_eq_false hkz;have hkz2:(k:Int)<(L.length:Int):=by omega
  have HB:=hq (fun n m=>below_drewN (below_drewN (Below.refl W.heap.size W) n) m);clear h e1 e2;generalize zc4 s L k=kk at *;generalize L[k].2.1=q1 at *;go_enter Tryz.func163,Tryz.ntmps163
  go_wp2_with fail
  go_big_quiet (fail)
  go_wp2_with fail
  go_big_quiet (fail)
  go_wp2_with fail
  go_ret
  exact⟨by rw[HK.o];rfl,HB.o _ _⟩
 ·have HK:Hq (zc4 s L k=s.size):=hq (by unfold zc4;rw[List.getElem?_eq_none (by omega)];rfl);have hkz:(L.length:Int)<=(k:Int):=by omega
  clear h e1 e2;generalize zc4 s L k=kk at *;go_enter Tryz.func163,Tryz.ntmps163
  go_wp2_with fail
  go_big_quiet (fail)
  go_wp2_with fail
  go_ret
  exact⟨by rw[HK.o];rfl,below_drewN (Below.refl _ _) _⟩
theorem zn7 {w0 W:World} {g:Nat} {s:ByteArray} {L:List Tok} {vL:Value} {k:Nat} {r:RS} (h:Pd w0 g s L vL k r W)(er:Int):
 Calls Tryz.prog 120 #[.pointer (some ⟨g,0,none⟩),.int .i64 er] W fun e W'=>e= .returned (.bool false)/\Pd w0 g s L vL k (r.bad (zc4 s L k:Int) er) W'/\Fr (r.own g) (r.own g) W W':=by
 have HC:=hq (zG7 h);have HR:=hq h;clear h;generalize zc4 s L k=hh at *;go_enter Tryz.func120,Tryz.ntmps120
 go_wp2_with fail
 refine HC.o.mono ?_;rintro e W2 ⟨rfl,hb⟩;have HR2:=hq (HR.o.grow hb);have HF2:=hq (Fr.of_below (r.own g) hb);obtain⟨a,c,na,nc,e1,e2,c0,c1,c2,c3,c4,c5,cf⟩:=HR2.o.cells;have c5':(W2.setCell ⟨g,4,none⟩ (.int .i64 (hh:Int))).cell? ⟨g,5,none⟩=some (.int .i64 r.er):=(HR2.o.blk.put 4 (.int .i64 (hh:Int))).at_ 5;have cf': ∀i,(W2.setCell ⟨g,4,none⟩ (.int .i64 (hh:Int))).frozen? ⟨g,i,none⟩=false:=(HR2.o.blk.put 4 (.int .i64 (hh:Int))).free;clear hb HC HR e1 e2;go_wp2_with fail
 go_ret
 exact⟨rfl,HR2.o.fail _ _,HF2.o.trans (Fr.fail2 r g W2 _ _)⟩
theorem psign_any {w0 W:World} {g:Nat} {s:ByteArray} {L:List Tok} {vL:Value} {k:Nat} {r:RS} (h:Pd w0 g s L vL k r W)(kd:Nat)(hkd:0<kd):
 Calls Tryz.prog 219 #[.pointer (some ⟨g,0,none⟩),.int .i64 (kd:Int)] W fun e W'=>if zb0 L k=kd then e= .returned (.bool true)/\Pd w0 g s L vL (k+1) r W'/\Fr (r.own g) (r.own g) W W'/\k<L.length else
  e= .returned (.bool false)/\Pd w0 g s L vL k (r.bad (zc4 s L k:Int) 2) W'/\Fr (r.own g) (r.own g) W W':=by
 have HC:=hq (zy1 h);have HR:=hq h;have hL9:L.length<=maxLen:=h.tl9;have hkl:=h.tm;have hlt:zb0 L k=kd->k<L.length:=fun e=>by
  rcases Nat.lt_or_ge k L.length with h|h
  ·exact h
  ·unfold zb0 at e;rw[List.getElem?_eq_none h]at e;simp at e;omega
 clear h;by_cases hk:zb0 L k=kd
 ·have hkk:=hlt hk;have HK:=hq hk;simp only[if_pos hk];have hf:((zb0 L k:Int) !=(kd:Int))=false:=by rw[bne_eq_false_iff_eq];omega
  have HST:=hq (show k+1<=L.length by omega);clear hlt hk;unfold maxLen at hL9;generalize zb0 L k=kk at *;go_enter Tryz.func219,Tryz.ntmps219
  go_wp2_with fail
  refine HC.o.mono ?_;rintro e W2 ⟨rfl,hb⟩;have HR2:=hq (HR.o.grow hb);have HF2:=hq (Fr.of_below (r.own g) hb);obtain⟨a,c,na,nc,e1,e2,c0,c1,c2,c3,c4,c5,cf⟩:=HR2.o.cells;have HS:=hq (HR2.o.step HST.o);have e5:((k+1:Nat):Int)=(k:Int)+1:=by omega
  rw[e5]at HS;clear hb HC HR e1 e2 e5;go_wp2_with fail
  go_ret
  exact⟨rfl,HS.o,HF2.o.trans ((Fr.refl _ _).set (.inl rfl) _),hkk⟩
 ·have HCW:=hq (fun W2 (hr:Pd w0 g s L vL k r W2)=>zn7 hr 2);simp only[if_neg hk];have hf:((zb0 L k:Int) !=(kd:Int))=true:=by rw[bne_iff_ne];omega
  clear hlt hk;generalize zb0 L k=kk at *;go_enter Tryz.func219,Tryz.ntmps219
  go_wp2_with fail
  refine HC.o.mono ?_;rintro e W2 ⟨rfl,hb⟩;have HF2:=hq (Fr.of_below (r.own g) hb);have HCC:=hq (HCW.o _ (HR.o.grow hb));clear hb HC HR HCW;go_wp2_with fail
  refine HCC.o.mono ?_;rintro e W3 ⟨rfl,hr3,hf3⟩;have HZ:=hq (And.intro hr3 (HF2.o.trans hf3));clear hr3 hf3;go_wp2_with fail
  go_ret
  exact⟨rfl,HZ.o.1,HZ.o.2⟩
theorem pscalar_any(k:Nat)(W:World):Calls Tryz.prog 160 #[.int .i64 (k:Int)] W fun e W'=>e= .returned (.int .i64 ((if zb8 k<=4 then zb8 k else 0:Nat):Int))/\W=W':=by
 have e: ∀n,(if zb8 n<=4 then zb8 n else 0:Nat)=if n=12 then 1 else if n=10\/n=11 then 2 else if n=9 then 3 else if n=8 then 4 else 0:=fun n=>by
  unfold zb8;by_cases h1:n=12
  ·simp[h1]
  ·by_cases h2:n=10\/n=11
   ·simp[h1,h2]
   ·by_cases h3:n=9
    ·simp[h3]
    ·by_cases h4:n=8
     ·simp[h4]
     ·by_cases h5:n=4
      ·simp[h5]
      ·by_cases h6:n=2
       ·simp[h6]
       ·simp[h1,h2,h3,h4,h5,h6]
 rw[e];by_cases h1:k=12
 ·subst h1;go_enter Tryz.func160,Tryz.ntmps160
  go_wp2_with fail
  go_ret
  exact⟨rfl,rfl⟩
 ·by_cases h2:k=10
  ·subst h2;go_enter Tryz.func160,Tryz.ntmps160
   go_wp2_with fail
   go_ret
   exact⟨rfl,rfl⟩
  ·by_cases h3:k=11
   ·subst h3;go_enter Tryz.func160,Tryz.ntmps160
    go_wp2_with fail
    go_ret
    exact⟨rfl,rfl⟩
   ·by_cases h4:k=9
    ·subst h4;go_enter Tryz.func160,Tryz.ntmps160
     go_wp2_with fail
     go_ret
     exact⟨rfl,rfl⟩
    ·by_cases h5:k=8
     ·subst h5;go_enter Tryz.func160,Tryz.ntmps160
      go_wp2_with fail
      go_ret
      exact⟨rfl,rfl⟩
     ·rw[if_neg h1,if_neg (by omega),if_neg h4,if_neg h5];have g1: ¬(k:Int)=12:=by omega
      have g2: ¬(k:Int)=10:=by omega
      have g3: ¬(k:Int)=11:=by omega
      have g4: ¬(k:Int)=9:=by omega
      have g5: ¬(k:Int)=8:=by omega
      clear h1 h2 h3 h4 h5;go_enter Tryz.func160,Tryz.ntmps160
      go_wp2_with fail
      go_ret
      exact⟨rfl,rfl⟩
def keyM(z:Nat)(tx:Nat->Nat->Bs)(had:List Bs)(l:List Tok):JErr⊕(Tok×List Tok):=match ze4 z 8 8 l with
 | .inl e=> .inl e
 | .inr (t,r)=>if tx t.2.1 t.2.2∈had then .inl (t.2.1,7) else match ze4 z 7 7 r with
   | .inl e=> .inl e
   | .inr (_,r2)=> .inr (t,r2)
theorem kidM_keyM {v:List Tok->Nat×Nat->List JN->JRes} {z:Nat} {tx:Nat->Nat->Bs} {had:List Bs} {l:List Tok} {ns:List JN}:kidM v true z tx had l ns=match keyM z tx had l with
 | .inl e=> .inl e
 | .inr (t,r2)=>match v r2 (t.2.1,t.2.2) ns with
   | .inl e=> .inl e
   | .inr (l',ns')=> .inr (had++[tx t.2.1 t.2.2],l',ns'):=by
 unfold kidM keyM;rw[if_pos rfl];cases ze4 z 8 8 l with
 |inl e=>rfl
 |inr p=>
  obtain⟨t,r⟩:=p;simp only;by_cases h:tx t.2.1 t.2.2∈had
  ·simp only[if_pos h]
  ·simp only[if_neg h];cases ze4 z 7 7 r with
   |inl e=>rfl
   |inr p=>rfl
theorem zD2(s:ByteArray)(L:List Tok)(k a b:Nat)(ha:0<a)(hb:0<b):
 (zb0 L k=a\/zb0 L k=b)/\(∃h:k<L.length,ze4 s.size a b (L.drop k)= .inr (L[k],L.drop (k+1)))\/(zb0 L k≠a/\zb0 L k≠b)/\ze4 s.size a b (L.drop k)= .inl (zc4 s L k,2):=by
 rcases Nat.lt_or_ge k L.length with h|h
 ·have e1:zb0 L k=L[k].1:=by unfold zb0;rw[List.getElem?_eq_getElem h];rfl
  have e2:zc4 s L k=L[k].2.1:=by unfold zc4;rw[List.getElem?_eq_getElem h];rfl
  rw[e1,e2,List.drop_eq_getElem_cons h];by_cases hc:L[k].1=a\/L[k].1=b
  ·refine .inl ⟨hc,h,?_⟩;unfold ze4;simp only;rw[if_neg (by omega)]
  ·refine .inr ⟨by omega,?_⟩;unfold ze4;simp only;rw[if_pos (by omega)]
 ·have e1:zb0 L k=0:=by unfold zb0;rw[List.getElem?_eq_none h];rfl
  have e2:zc4 s L k=s.size:=by unfold zc4;rw[List.getElem?_eq_none h];rfl
  rw[e1,e2,List.drop_eq_nil_of_le h];exact .inr ⟨by omega,rfl⟩
def keyV(tx:ByteArray)(a b:Int)(ok:Bool):Value:= .tuple #[.string tx,.agg #[.int .i64 a,.int .i64 b],.bool ok]
def zr9(w0:World)(g:Nat)(s:ByteArray)(L:List Tok)(vL:Value)(k:Nat)(r:RS)(had:List Bs)(W:World)(e:Ending)(W':World):Prop:=
 match keyM s.size (za3 s) had (L.drop k) with
 | .inl (wh,er)=>(∃tx a b,e= .returned (keyV tx a b false))/\(∃k',Pd w0 g s L vL k' (r.bad (wh:Int) er) W')/\Fr (r.own g) (r.own g) W W'
 | .inr (t,l)=>e= .returned (keyV (st (za3 s t.2.1 t.2.2)) (t.2.1:Int) (t.2.2:Int) true)/\(∃k',Pd w0 g s L vL k' r W'/\L.drop k'=l)/\Fr (r.own g) (r.own g) W W'
section
variable {w0 W:World} {g:Nat} {s:ByteArray} {L:List Tok} {vL:Value} {k:Nat} {r:RS}
theorem read_three {W9 wr W:World} {p0 p1 p2:Addr} {v0 v1 v2:Value} (hT:Below wr.heap.size wr W/\W.cell? p0=some v0/\W.cell? p1=some v1/\W.cell? p2=some v2)(hb:Below W.heap.size W W9):Below wr.heap.size wr W9/\W9.cell? p0=some v0/\W9.cell? p1=some v1/\W9.cell? p2=some v2:=
 ⟨za hT.1 hb,(hb.cell (zb2 hT.2.1)).trans hT.2.1,(hb.cell (zb2 hT.2.2.1)).trans hT.2.2.1,(hb.cell (zb2 hT.2.2.2)).trans hT.2.2.2⟩
theorem Pd.far(h:Pd w0 g s L vL k r W) {p:Addr} (hp: ¬r.own g p.block)(hv:vL.ownBlock≠some p.block)(hb:w0.heap.size<=p.block)(u:Value):Pd w0 g s L vL k r (W.setCell p u):=by
 have hg:=zi6 W p u;refine⟨h.blk.far (fun e=>hp (.inl e.symm)) u,za5 h.tk hg fun b e e2=>by cases e;exact hv e2,h.tl,h.tm,?_,?_,?_,h.ak,h.ap,h.bl.setCell hb u,h.gl,h.n4,h.kl⟩
 ·exact za5 h.nd hg fun b e e2=>by cases e;exact hp (.inr (.inl e2))
 ·exact fun i hi=>za5 (h.kr i hi) hg fun b e e2=>by cases e;exact hp (.inr (.inr ⟨i,hi,.inl e2⟩))
 ·exact fun i hi=>za5 (h.pr i hi) hg fun b e e2=>by cases e;exact hp (.inr (.inr ⟨i,hi,.inr e2⟩))
theorem Pd.far2(h:Pd w0 g s L vL k r W) {b:Nat} (hp: ¬r.own g b)(hv:vL.ownBlock≠some b)(hb:w0.heap.size<=b)(u0 u1:Value):Pd w0 g s L vL k r (set2 W b u0 u1):=
 (h.far (p:=⟨b,0,none⟩) hp hv hb u0).far (p:=⟨b,1,none⟩) hp hv hb u1
theorem Fr.new2 {o o':Nat->Prop} {W W':World} (h:Fr o o' W W') {b:Nat} (hp:W.heap.size<=b)(u0 u1:Value):Fr o o' W (set2 W' b u0 u1):=(h.new (p:=⟨b,0,none⟩) hp u0).new (p:=⟨b,1,none⟩) hp u1
end
theorem pkey_any {w0 W:World} {g:Nat} {s:ByteArray} {L:List Tok} {vL:Value} {k:Nat} {r:RS} (h:Pd w0 g s L vL k r W) {B:Nat} {vH:Value} {had:List Bs} (hH:W.ownsRow B 9 1 vH had.length (strC had))(hs:s.size<=65536)(hl:had.length<=4096):
 Calls Tryz.prog 198 #[.pointer (some ⟨g,0,none⟩),vH] W (zr9 w0 g s L vL k r had W):=by
 obtain⟨ha,hc,rfl⟩:=ze6 hH;have hb0:=za0 W (.cells #[.int .i64 0,.int .i64 0] 44);have hb00:=hb0;have HR1:=hq (h.grow hb0);have hol:=h.own_lt;have HL1:Hq (Lo (r.own g) (W.alloc (.cells #[.int .i64 0,.int .i64 0] 44)) W.heap.size 44 #[.int .i64 0,.int .i64 0]):=hq (Lo.new (fun k hk=>(hol k hk).2) _ _);have HF1:=hq (Fr.of_below (r.own g) hb0);have HVN:Hq (vL.ownBlock≠some W.heap.size):=hq (fun e=>by have:=(h.tk.lt _ e).2;omega);have hwl:w0.heap.size<=W.heap.size:=h.bl.size;have HPP:Hq (∀wh er W' tx a b,keyM s.size (za3 s) had (L.drop k)= .inl (wh,er)->(∃k',Pd w0 g s L vL k' (r.bad (wh:Int) er) W')->Fr (r.own g) (r.own g) W W'->zr9 w0 g s L vL k r had W (.returned (keyV tx a b false)) W'):=hq (fun wh er W' tx a b h1 h2 h3=>by
  unfold zr9;rw[h1];exact⟨⟨_,_,_,rfl⟩,h2,h3⟩)
 have HPR:Hq (∀t l W',keyM s.size (za3 s) had (L.drop k)= .inr (t,l)->(∃k',Pd w0 g s L vL k' r W'/\L.drop k'=l)->Fr (r.own g) (r.own g) W W'->zr9 w0 g s L vL k r had W (.returned (keyV (st (za3 s t.2.1 t.2.2)) (t.2.1:Int) (t.2.2:Int) true)) W'):=hq (fun t l W' h1 h2 h3=>by
  unfold zr9;rw[h1];exact⟨rfl,h2,h3⟩)
 have HKM:Hq (keyM s.size (za3 s) had (L.drop k)=match ze4 s.size 8 8 (L.drop k) with
  | .inl e=> .inl e
  | .inr (t,r)=>if za3 s t.2.1 t.2.2∈had then .inl (t.2.1,7) else match ze4 s.size 7 7 r with
    | .inl e=> .inl e
    | .inr (_,r2)=> .inr (t,r2)):=hq rfl
 obtain⟨PP,hPP⟩: ∃PP,PP=zr9 w0 g s L vL k r had W:=⟨_,rfl⟩;rw[←hPP]at HPP HPR ⊢;have HTA:=hq (zD2 s L k 8 8 (by omega) (by omega));have HCK:=hq (zy1 HR1.o);generalize keyM s.size (za3 s) had (L.drop k)=KM at *;clear hPP h hb0 hol;go_enter Tryz.func198,Tryz.ntmps198
 go_wp2_with fail
 refine HCK.o.mono ?_;rintro e W2 ⟨rfl,hb⟩;have HR2:=hq (HR1.o.grow hb);have HF2:=hq (HF1.o.trans (Fr.of_below _ hb));have HL2:=hq (HL1.o.below hb);have HB2:Hq (∀W9,Below W2.heap.size W2 W9->Below W.heap.size W W9):=hq (fun W9 h=>za (za hb00 hb) h);clear hb hb00 HR1 HF1 HL1 HCK;rcases HTA.o with ⟨hk8,hkl,htk⟩|⟨⟨hk8,_⟩,htk⟩
 ·have hf:((zb0 L k:Int) !=8)=false:=by rw[bne_eq_false_iff_eq];omega
  obtain⟨gT,cT,e3,t0,t1,t2⟩:=HR2.o.tok hkl;obtain⟨a,c,na,nc,e1,e2,c0,c1,c2,c3,c4,c5,cf⟩:=HR2.o.cells;have HVL:=hq e1;rw[e1]at e3;cases e3;obtain⟨hz2,hzs⟩:=HR2.o.tl L[k] (List.getElem_mem hkl);have HKM2:Hq (KM=if za3 s L[k].2.1 L[k].2.2∈had then .inl (L[k].2.1,7) else match ze4 s.size 7 7 (L.drop (k+1)) with
   | .inl e=> .inl e
   | .inr (_,r2)=> .inr (L[k],r2)):=hq (by rw[HKM.o,htk])
  have HHE:Hq (zc4 s L k=L[k].2.1):=hq (by unfold zc4;rw[List.getElem?_eq_getElem hkl];rfl);clear HKM htk hk8 e1 e2 HTA c3 c4 c5 t0;generalize L[k]=t at *;obtain⟨kd,ta,tb⟩:=t;simp only at t1 t2 hz2 hzs HKM2 HHE;have hkz:(k:Int)<(L.length:Int):=by omega
  have HBZ:=hq (za0 W2 (.cells #[.int .i64 0,.int .i64 0] 44));have c1z:=(HBZ.o.cell (zb2 c1)).trans c1;have c2z:=(HBZ.o.cell (zb2 c2)).trans c2;have t1z:=(HBZ.o.cell (zb2 t1)).trans t1;have t2z:=(HBZ.o.cell (zb2 t2)).trans t2;generalize zb0 L k=kk at *;go_wp2_with fail
  go_region
  have hbn:Below W2.heap.size W2 (W2.alloc (.cells #[.int .i64 (ta:Int),.int .i64 (tb:Int)] 44)).drew:=(za0 W2 (.cells #[.int .i64 (ta:Int),.int .i64 (tb:Int)] 44)).drew;have HX3:Hq (Lo (r.own g) (W2.alloc (.cells #[.int .i64 (ta:Int),.int .i64 (tb:Int)] 44)).drew W2.heap.size 44 #[.int .i64 (ta:Int),.int .i64 (tb:Int)]):=hq ((Lo.new (fun k hk=>(HR2.o.own_lt k hk).2) _ _).below (Below.refl _ _).drew);have HR3:=hq (HR2.o.grow hbn);have HL3:=hq (HL2.o.below hbn);have HF3:=hq (HF2.o.trans (Fr.of_below _ hbn));have HH3:=hq (fun W9 (hb:Below (W2.alloc (.cells #[.int .i64 (ta:Int),.int .i64 (tb:Int)] 44)).drew.heap.size (W2.alloc (.cells #[.int .i64 (ta:Int),.int .i64 (tb:Int)] 44)).drew W9)=>HB2.o W9 (za hbn hb));clear hbn HBZ c1z c2z t1z t2z c0 c1 c2 t1 t2 HR2 HL2 HF2 HB2;generalize W2.heap.size=bX at *;generalize (W2.alloc (.cells #[.int .i64 (ta:Int),.int .i64 (tb:Int)] 44)).drew=W3 at *;obtain⟨_,_,_,_,_,_,c0,_⟩:=HR3.o.cells;have x1:=HX3.o.at_.at_ 0;have x2:=HX3.o.at_.at_ 1;have hz1:(0:Int)<=(ta:Int):=by omega
  have hz2i:(ta:Int)<=(tb:Int):=by omega
  have hz3:(tb:Int)<=(s.size:Int):=by omega
  have HU:=hq (fun WW=>zp (s.extract ta tb) WW (by rw[ByteArray.size_extract];omega));unfold zt8 at HU;have HNM:Hq (za3 s ta tb=(zb4 (s.extract ta tb)).1):=hq rfl;generalize zb4 (s.extract ta tb)=U at *;obtain⟨nm,u1,u2⟩:=U;simp only at HU HNM;have hcl:=And.intro (Below.refl W3.heap.size W3).drew (And.intro c0 (And.intro x1 x2));go_wp2_with fail
  go_region_held3 (fun W=>Below W3.heap.size W3 W/\W.cell? ⟨g,0,none⟩=some (.string s)/\W.cell? ⟨bX,0,none⟩=some (.int .i64 (ta:Int))/\W.cell? ⟨bX,1,none⟩=some (.int .i64 (tb:Int)))
   (first|exact ⟨(Below.refl _ _).drew,c0,x1,x2⟩|exact hT2)
   ((go_at_call 33;refine(HU.o _).mono ?_;rintro e' w9 ⟨rfl,hb9⟩;have hT2:Below W3.heap.size W3 w9/\w9.cell? ⟨g,0,none⟩=some (.string s)/\w9.cell? ⟨bX,0,none⟩=some (.int .i64 (ta:Int))/\w9.cell? ⟨bX,1,none⟩=some (.int .i64 (tb:Int)):=read_three (by assumption) hb9))
  have HR9:=hq (HR3.o.grow hT2.1);have HL9:=hq (HL3.o.below hT2.1);have HF9:=hq (HF3.o.trans (Fr.of_below _ hT2.1));have HX9:=hq (HX3.o.below hT2.1);have HHC:Hq (∀i (hi:i<had.length),∃gH,ha=some ⟨gH,0,none⟩/\w9.cell? ⟨gH,i,none⟩=some (.string (st had[i]))):=hq (fun i hi=>by
   obtain⟨n,hn⟩: ∃n,had.length=n+1:=⟨had.length-1,by omega⟩;have h1:=hH;rw[hn]at h1;obtain⟨gH,c,hv,_,_,hcc⟩:=zL0 h1;have h2:=hcc i (.string (st had[i])) (by unfold strC;simp[hi]);cases hv;exact⟨gH,rfl,((HH3.o w9 hT2.1).cell (zb2 h2)).trans h2⟩)
  clear hT2 hcl c0 x1 x2 HU HR3 HL3 HF3 HX3 HH3 hz1 hz2i hz3;go_wp2_with fail
  go_loopg [11] had.length (fun gk u wr=> ∃i:Nat,i+gk<=had.length/\had.length<=i+gk/\u= .int .i64 (i:Int)/\Hq (∀q (hq:q<had.length),q<i->had[q]≠nm)/\w9=wr)
  case atStart=>exact⟨0,by omega,by omega,rfl,hq (fun q _ h=>by omega),rfl⟩
  case round=>
   obtain⟨i,hi1,hi2,rfl,HNO,rfl⟩:=hrel;by_cases hil:i<had.length
   ·have hiz:(i:Int)<(had.length:Int):=by omega
    obtain⟨gH,rfl,y1⟩:=HHC.o i hil;by_cases heq:had[i]=nm
    ·have HM:Hq (KM= .inl (ta,7)):=hq (by rw[HKM2.o,if_pos];rw[HNM.o,←heq];exact List.getElem_mem hil);rw[heq]at y1;have HW:=hq (zn7 HR9.o 7);rw[HHE.o]at HW;have e1:((st nm).toList==(st nm).toList)=true:=beq_self_eq_true _;clear HKM2 HNO heq HHC HPR HNM;go_wp2_with fail
     refine HW.o.mono ?_;rintro e W4 ⟨rfl,hr4,hf4⟩;have HL4:=hq (HL9.o.step hf4);have HF4:=hq (HF9.o.trans hf4);have z0:=HL4.o.at_.at_ 0;have z1:=HL4.o.at_.at_ 1;have yf:=HL4.o.at_.free;have HS:=hq (ze3 HL4.o.at_ (.int .i64 0) (.int .i64 0));have z2:=HS.o.at_ 0;have z3:=HS.o.at_ 1;have HV:=hq (HPP.o ta 7 _ ⟨#[]⟩ 0 0 HM.o ⟨k,hr4.far2 HL4.o.no HVN.o hwl (.int .i64 0) (.int .i64 0)⟩ (HF4.o.new2 (Nat.le_refl _) (.int .i64 0) (.int .i64 0)));unfold set2 at z2 z3 HV;have HZ:=hq (And.intro z2 z3);clear hr4 hf4 HW HS z2 z3 HPP HM HF4 HL4 HR9 HL9 HF9 HX9;go_wp2_with fail
     refine bodyPost_ret (v:=keyV ⟨#[]⟩ 0 0 false) ?_ rfl HV.o;obtain⟨z0,z1⟩:=HZ.o;simp[results,Tryz.results198,go_sem,z0,z1,keyV]
    ·have hne: ¬(st had[i]).toList=(st nm).toList:=fun e=>heq (by rw[ByteArray.toList_eq,ByteArray.toList_eq]at e;simpa using e)
     have e1:((st had[i]).toList==nm)=false:=beq_eq_false_iff_ne.2 fun e=>heq (by rw[ByteArray.toList_eq]at e;simpa using e)
     clear hne;have HN2:Hq (∀q (hq:q<had.length),q<i+1->had[q]≠nm):=hq (fun q h1 h2=>by
      rcases Nat.lt_or_ge q i with h3|h3
      ·exact HNO.o q h1 h3
      ·obtain rfl:q=i:=by omega
       exact heq)
     clear HNO heq;generalize st had[i]=SI at *;go_wp2_with fail
     go_roundg (gk-1)
     case measure=>omega
     case rel=>exact⟨i+1,by omega,by omega,zb5 (by omega),HN2,rfl⟩
   ·have hiz: ¬(i:Int)<(had.length:Int):=by omega
    have HM:Hq (KM=match ze4 s.size 7 7 (L.drop (k+1)) with
     | .inl e=> .inl e
     | .inr (_,r2)=> .inr ((kd,ta,tb),r2)):=hq (by
     rw[HKM2.o,if_neg];rw[HNM.o];intro hm;obtain⟨q,hq1,hq2⟩:=List.getElem_of_mem hm;exact HNO.o q hq1 (by omega) hq2)
    have HNK:=hq HNM.o;clear HKM2 HNO HHC HNM;obtain⟨_,_,_,_,_,_,_,_,c2,_,_,_,cf⟩:=HR9.o.cells;have HSTP:=hq (HR9.o.step (k1:=k+1) (by omega));have e5:((k+1:Nat):Int)=(k:Int)+1:=by omega
    rw[e5]at HSTP;have hkl9:=HR9.o.tl9;unfold maxLen at hkl9;have hfr:Fr (r.own g) (r.own g) w9 (w9.setCell ⟨g,2,none⟩ (.int .i64 ((k:Int)+1))):=(Fr.refl _ _).set (.inl rfl) _;have HX10:=hq (HX9.o.step hfr);have HL10:=hq (HL9.o.step hfr);have HF10:=hq (HF9.o.trans hfr);clear e5 hfr;go_upto_region 11 with fail
    generalize w9.setCell ⟨g,2,none⟩ (.int .i64 ((k:Int)+1))=w10 at *;clear c2 cf HR9 HX9 HL9 HF9;have HSG:=hq (fun W' (hr:Pd w0 g s L vL (k+1) r W')=>psign_any hr 7 (by omega));have HTA:=hq (zD2 s L (k+1) 7 7 (by omega) (by omega));have x1:=HX10.o.at_.at_ 0;have x2:=HX10.o.at_.at_ 1;have HD:Hq (Below w10.heap.size w10 w10.drew):=hq (Below.refl _ _).drew;rcases HTA.o with ⟨hk7,hkl7,htk⟩|⟨⟨hk7,_⟩,htk⟩
    ·rw[or_self]at hk7;simp only[if_pos hk7]at HSG;have HM2:Hq (KM= .inr ((kd,ta,tb),L.drop (k+1+1))):=hq (by rw[HM.o,htk]);clear HM HTA hk7 htk HPP
     go_region_with (go_at_call 219;refine(HSG.o _ (HSTP.o.grow HD.o)).mono ?_;rintro e' w11 ⟨rfl,hr11,hf11,_⟩;have hf:=(Fr.of_below (r.own g) HD.o).trans hf11;have HX11:=HX10.o.step hf;have x3:=HX11.at_.at_ 0;have x4:=HX11.at_.at_ 1;have HL11:=HL10.o.step hf;have y0:=HL11.at_.at_ 0;have y1:=HL11.at_.at_ 1;have yf:=HL11.at_.free;have HS11:=ze3 HL11.at_ (.int .i64 (ta:Int)) (.int .i64 (tb:Int));have z2:=HS11.at_ 0;have z3:=HS11.at_ 1;have HV:=hq (HPR.o (kd,ta,tb) _ _ HM2.o ⟨k+1+1,hr11.far2 HL11.no HVN.o hwl (.int .i64 (ta:Int)) (.int .i64 (tb:Int)),rfl⟩ ((HF10.o.trans hf).new2 (Nat.le_refl _) (.int .i64 (ta:Int)) (.int .i64 (tb:Int))));unfold set2 at z2 z3 HV;have HZ:=hq (And.intro z2 z3);clear z2 z3 HS11 hr11 hf11 hf HX11 HL11;rw[HNK.o]at HV)
     all_goals
      go_wp2_with fail
      refine bodyPost_ret (v:=keyV (st nm) (ta:Int) (tb:Int) true) ?_ rfl HV.o;obtain⟨z0,z1⟩:=HZ.o;simp[results,Tryz.results198,go_sem,z0,z1,keyV]
    ·simp only[if_neg hk7]at HSG;have HM2:Hq (KM= .inl (zc4 s L (k+1),2)):=hq (by rw[HM.o,htk]);clear HM HTA hk7 htk HPR
     go_region_with (go_at_call 219;refine(HSG.o _ (HSTP.o.grow HD.o)).mono ?_;rintro e' w11 ⟨rfl,hr11,hf11⟩;have hf:=(Fr.of_below (r.own g) HD.o).trans hf11;have HX11:=HX10.o.step hf;have x3:=HX11.at_.at_ 0;have x4:=HX11.at_.at_ 1;have HL11:=HL10.o.step hf;have y0:=HL11.at_.at_ 0;have y1:=HL11.at_.at_ 1;have yf:=HL11.at_.free;have HS11:=ze3 HL11.at_ (.int .i64 (ta:Int)) (.int .i64 (tb:Int));have z2:=HS11.at_ 0;have z3:=HS11.at_ 1;have HV:=hq (HPP.o _ _ _ (st nm) (ta:Int) (tb:Int) HM2.o ⟨k+1,hr11.far2 HL11.no HVN.o hwl (.int .i64 (ta:Int)) (.int .i64 (tb:Int))⟩ ((HF10.o.trans hf).new2 (Nat.le_refl _) (.int .i64 (ta:Int)) (.int .i64 (tb:Int))));unfold set2 at z2 z3 HV;have HZ:=hq (And.intro z2 z3);clear z2 z3 HS11 hr11 hf11 hf HX11 HL11)
     all_goals
      go_wp2_with fail
      refine bodyPost_ret (v:=keyV (st nm) (ta:Int) (tb:Int) false) ?_ rfl HV.o;obtain⟨z0,z1⟩:=HZ.o;simp[results,Tryz.results198,go_sem,z0,z1,keyV]
 ·have hf:((zb0 L k:Int) !=8)=true:=by rw[bne_iff_ne];omega
  have HW:=hq (zn7 HR2.o 2);have HM:Hq (KM= .inl (zc4 s L k,2)):=hq (by rw[HKM.o,htk]);clear hk8 htk HKM HPR;generalize zb0 L k=kk at *;generalize zc4 s L k=hh at *;go_wp2_with fail
  refine HW.o.mono ?_;rintro e W3 ⟨rfl,hr3,hf3⟩;have HL3:=hq (HL2.o.step hf3);have HF3:=hq (HF2.o.trans hf3);have y0:=HL3.o.at_.at_ 0;have y1:=HL3.o.at_.at_ 1;have yf:=HL3.o.at_.free;have HS:=hq (ze3 HL3.o.at_ (.int .i64 0) (.int .i64 0));have z0:=HS.o.at_ 0;have z1:=HS.o.at_ 1;have HV:=hq (HPP.o hh 2 _ ⟨#[]⟩ 0 0 HM.o ⟨k,hr3.far2 HL3.o.no HVN.o hwl (.int .i64 0) (.int .i64 0)⟩ (HF3.o.new2 (Nat.le_refl _) (.int .i64 0) (.int .i64 0)));unfold set2 at z0 z1 HV;have HZ:=hq (And.intro z0 z1);clear hr3 hf3 HW HS z0 z1 HPP HM HF3 HL3 HR2 HF2 HL2;go_wp2_with fail
  refine bodyPost_ret (v:=keyV ⟨#[]⟩ 0 0 false) ?_ rfl HV.o;obtain⟨z0,z1⟩:=HZ.o;simp[results,Tryz.results198,go_sem,z0,z1,keyV]
def PBad(w0:World)(g:Nat)(s:ByteArray)(L:List Tok)(vL:Value)(r:RS)(W:World)(wh:Nat)(er:Int)(e:Ending)(W':World):Prop:=
 e= .returned (.bool false)/\ ∃k' r',Pd w0 g s L vL k' r' W'/\Fr (r.own g) (r'.own g) W W'/\r'.wh=(wh:Int)/\r'.er=er
def zl5(w0:World)(g:Nat)(s:ByteArray)(L:List Tok)(vL:Value)(d:Nat)(key:Nat×Nat)(k:Nat)(r:RS)(W:World)(e:Ending)(W':World):Prop:=
 match za4 s.size (za3 s) d (L.drop k) key r.ns with
 | .inl (wh,er)=>PBad w0 g s L vL r W wh er e W'
 | .inr (l,ns)=>e= .returned (.bool true)/\ ∃k' r',Pd w0 g s L vL k' r' W'/\Fr (r.own g) (r'.own g) W W'/\L.drop k'=l/\r'.ns=ns
def zo8(w0:World)(g:Nat)(s:ByteArray)(L:List Tok)(vL:Value)(d:Nat)(ob:Bool)(n k:Nat)(r:RS)(W:World)(e:Ending)(W':World):Prop:=
 match zh8 (za4 s.size (za3 s) d) ob s.size (za3 s) n (L.drop k) r.ns with
 | .inl (wh,er)=>PBad w0 g s L vL r W wh er e W'
 | .inr (l,ns)=>e= .returned (.bool true)/\ ∃k' r' t,Pd w0 g s L vL k' r' W'/\Fr (r.own g) (r'.own g) W W'/\L.drop k'=l/\n<r'.nv.length/\1<=k'/\L[k'-1]?=some t/\closeN r'.ns n t.2.2=ns
def PValOk(w0:World)(g:Nat)(s:ByteArray)(L:List Tok)(vL:Value)(d Lv:Nat):Prop:= ∀(k:Nat) (r:RS) (W:World) (ka kb:Nat),Pd w0 g s L vL k r W->
 Calls Tryz.prog 119 #[.pointer (some ⟨g,0,none⟩),.int .i64 (Lv:Int),.agg #[.int .i64 (ka:Int),.int .i64 (kb:Int)]] W (zl5 w0 g s L vL d (ka,kb) k r W)
def PKidsOk(w0:World)(g:Nat)(s:ByteArray)(L:List Tok)(vL:Value)(d Lv:Nat):Prop:= ∀(ob:Bool) (n k:Nat) (r:RS) (W:World),Pd w0 g s L vL k r W->n<r.nv.length->1<=k->(∀t,L[k-1]?=some t->toN r.ns n=t.2.2)->
 Calls Tryz.prog 162 #[.pointer (some ⟨g,0,none⟩),.int .i64 (n:Int),.int .i64 (Lv:Int),.int .i64 (ze7 ob:Int)] W (zo8 w0 g s L vL d ob n k r W)
theorem Pd.close {w0 W:World} {g:Nat} {s:ByteArray} {L:List Tok} {vL:Value} {k0:Nat} {r:RS} (h:Pd w0 g s L vL k0 r W) {k:Nat} (hk:k<r.nv.length) {gN cap:Nat} (hvN:r.vN= .slice (some ⟨gN,0,none⟩) r.nv.length cap)(b:Nat):
 Pd w0 g s L vL k0 (r.upd k (zC5 r.nv[k] b)) (W.setCell ⟨gN,k*7+2,none⟩ (.int .i64 (b:Int)))/\Fr (r.own g) ((r.upd k (zC5 r.nv[k] b)).own g) W (W.setCell ⟨gN,k*7+2,none⟩ (.int .i64 (b:Int))):=
 h.upd hk hvN (by omega) (by simp[ze,zC5]) (World.grownBy.mk rfl rfl rfl (Nat.le_refl _) fun _ _ _=>rfl:W.grownBy W none) (.inl rfl) (h.kr k hk) (h.pr k hk) (.inl rfl) (.inl rfl) (h.kl k hk)
theorem Pd.stepF {w0 W:World} {g:Nat} {s:ByteArray} {L:List Tok} {vL:Value} {k0:Nat} {r:RS} (_h:Pd w0 g s L vL k0 r W)(u:Value):Fr (r.own g) (r.own g) W (W.setCell ⟨g,2,none⟩ u):=(Fr.refl _ _).set (.inl rfl) u
theorem close_leaf(ns:List JN)(t:Tok)(key:Nat×Nat):closeN (ns++[ze9 t key]) ns.length t.2.2=ns++[ze9 t key]:=by
 unfold closeN;refine List.ext_getElem? fun i=> ?_
 rw[List.getElem?_modify];by_cases h:ns.length=i
 ·subst h;simp[ze9]
 ·simp[h]
theorem toN_leaf(ns:List JN)(t:Tok)(key:Nat×Nat):toN (ns++[ze9 t key]) ns.length=t.2.2:=by
 unfold toN;simp[ze9]
theorem kindM_two(k:Nat):(if k=2 then 6 else if k=4 then 5 else if zb8 k<=4 then zb8 k else 0)=zb8 k:=by
 unfold zb8;by_cases h1:k=12
 ·simp[h1]
 ·by_cases h2:k=10\/k=11
  ·rcases h2 with h|h<;>simp[h]
  ·by_cases h3:k=9
   ·simp[h3]
   ·by_cases h4:k=8
    ·simp[h4]
    ·by_cases h5:k=4
     ·simp[h5]
     ·by_cases h6:k=2
      ·simp[h6]
      ·simp[h1,h2,h3,h4,h5,h6]
theorem valueM_at0 {s:ByteArray} {L:List Tok} {k d:Nat} {tx:Nat->Nat->Bs} {key:Nat×Nat} {ns:List JN} (h:zb8 (zb0 L k)=0):za4 s.size tx d (L.drop k) key ns= .inl (zc4 s L k,2):=by
 rcases Nat.lt_or_ge k L.length with hk|hk
 ·have e1:zb0 L k=L[k].1:=by unfold zb0;rw[List.getElem?_eq_getElem hk];rfl
  have e2:zc4 s L k=L[k].2.1:=by unfold zc4;rw[List.getElem?_eq_getElem hk];rfl
  rw[e2,List.drop_eq_getElem_cons hk];rw[e1]at h;exact valueM_0 h
 ·have e2:zc4 s L k=s.size:=by unfold zc4;rw[List.getElem?_eq_none hk];rfl
  rw[e2,List.drop_eq_nil_of_le hk];exact zK2
theorem valueM_at1 {s:ByteArray} {L:List Tok} {k:Nat} (h:zb8 (zb0 L k)≠0): ∃hk:k<L.length,zb0 L k=L[k].1/\zc4 s L k=L[k].2.1/\L.drop k=L[k]::L.drop (k+1):=by
 rcases Nat.lt_or_ge k L.length with hk|hk
 ·exact ⟨hk,by unfold zb0;rw[List.getElem?_eq_getElem hk];rfl,by unfold zc4;rw[List.getElem?_eq_getElem hk];rfl,List.drop_eq_getElem_cons hk⟩
 ·exfalso;apply h;unfold zb0;rw[List.getElem?_eq_none hk];rfl
theorem six_grow {W W':World} {p1 p2 p3 p4 p5 p6:Addr} {v1 v2 v3 v4 v5 v6:Value} (h:W.cell? p1=some v1/\W.cell? p2=some v2/\W.cell? p3=some v3/\W.cell? p4=some v4/\W.cell? p5=some v5/\W.cell? p6=some v6)(hb:Below W.heap.size W W'):
 W'.cell? p1=some v1/\W'.cell? p2=some v2/\W'.cell? p3=some v3/\W'.cell? p4=some v4/\W'.cell? p5=some v5/\W'.cell? p6=some v6:=
 ⟨(hb.cell (zb2 h.1)).trans h.1,(hb.cell (zb2 h.2.1)).trans h.2.1,(hb.cell (zb2 h.2.2.1)).trans h.2.2.1,(hb.cell (zb2 h.2.2.2.1)).trans h.2.2.2.1,(hb.cell (zb2 h.2.2.2.2.1)).trans h.2.2.2.2.1,(hb.cell (zb2 h.2.2.2.2.2)).trans h.2.2.2.2.2⟩
theorem zg4 {W W':World} {p:Addr} {v:Value} {row:Option Nat} (h:W.cell? p=some v)(hg:W.grownBy W' row)(hr:row≠some p.block):W'.cell? p=some v:=
 (World.cell?_of_block (a:=p) (hg.block p.block (zb2 h) fun e=>hr e.symm)).trans h
theorem six_grown {W W':World} {p1 p2 p3 p4 p5 p6:Addr} {v1 v2 v3 v4 v5 v6:Value} {row:Option Nat} (h:W.cell? p1=some v1/\W.cell? p2=some v2/\W.cell? p3=some v3/\W.cell? p4=some v4/\W.cell? p5=some v5/\W.cell? p6=some v6)(hg:W.grownBy W' row)
 (h1:row≠some p1.block) (h2:row≠some p2.block) (h3:row≠some p3.block) (h4:row≠some p4.block) (h5:row≠some p5.block) (h6:row≠some p6.block):
 W'.cell? p1=some v1/\W'.cell? p2=some v2/\W'.cell? p3=some v3/\W'.cell? p4=some v4/\W'.cell? p5=some v5/\W'.cell? p6=some v6:=
 ⟨zg4 h.1 hg h1,zg4 h.2.1 hg h2,zg4 h.2.2.1 hg h3,zg4 h.2.2.2.1 hg h4,zg4 h.2.2.2.2.1 hg h5,zg4 h.2.2.2.2.2 hg h6⟩
theorem zi0 {W:World} {p q:Addr} {v:Value} (h:W.cell? p=some v)(hne:q≠p)(u:Value):(W.setCell q u).cell? p=some v:=by
 first|rw[World.cell?_setCell_other _ hne]|rw[World.cell?_setCell_other _ _ hne]|rw[World.cell?_setCell_other _ _ _ hne]|rw[World.cell?_setCell_other _ _ _ _ hne]
 exact h
theorem six_put {W:World} {g gT bK o1 o2 o3 o4 o5 o6 q:Nat} {v1 v2 v3 v4 v5 v6:Value} (h:W.cell? ⟨g,o1,none⟩=some v1/\W.cell? ⟨g,o2,none⟩=some v2/\W.cell? ⟨gT,o3,none⟩=some v3/\W.cell? ⟨gT,o4,none⟩=some v4/\W.cell? ⟨bK,o5,none⟩=some v5/\W.cell? ⟨bK,o6,none⟩=some v6)
 (h1:g≠gT) (h2:g≠bK) (h3:q≠o1) (h4:q≠o2) (u:Value):(W.setCell ⟨g,q,none⟩ u).cell? ⟨g,o1,none⟩=some v1/\(W.setCell ⟨g,q,none⟩ u).cell? ⟨g,o2,none⟩=some v2/\(W.setCell ⟨g,q,none⟩ u).cell? ⟨gT,o3,none⟩=some v3/\(W.setCell ⟨g,q,none⟩ u).cell? ⟨gT,o4,none⟩=some v4/\(W.setCell ⟨g,q,none⟩ u).cell? ⟨bK,o5,none⟩=some v5/\(W.setCell ⟨g,q,none⟩ u).cell? ⟨bK,o6,none⟩=some v6:=
 ⟨zi0 h.1 (fun e=>by injection e with _ e2;exact h3 e2) u,zi0 h.2.1 (fun e=>by injection e with _ e2;exact h4 e2) u,zi0 h.2.2.1 (fun e=>by injection e with e2;exact h1 e2) u,zi0 h.2.2.2.1 (fun e=>by injection e with e2;exact h1 e2) u,
  zi0 h.2.2.2.2.1 (fun e=>by injection e with e2;exact h2 e2) u,zi0 h.2.2.2.2.2 (fun e=>by injection e with e2;exact h2 e2) u⟩
theorem zQ1 {W:World} {g gT gN o1 o2 o3 o4 q:Nat} {v1 v2 v3 v4:Value} (h:W.cell? ⟨g,o1,none⟩=some v1/\W.cell? ⟨g,o2,none⟩=some v2/\W.cell? ⟨g,o3,none⟩=some v3/\W.cell? ⟨gT,o4,none⟩=some v4)
 (h1:gN≠g) (h2:gN≠gT) (u:Value):(W.setCell ⟨gN,q,none⟩ u).cell? ⟨g,o1,none⟩=some v1/\(W.setCell ⟨gN,q,none⟩ u).cell? ⟨g,o2,none⟩=some v2/\(W.setCell ⟨gN,q,none⟩ u).cell? ⟨g,o3,none⟩=some v3/\(W.setCell ⟨gN,q,none⟩ u).cell? ⟨gT,o4,none⟩=some v4:=
 ⟨zi0 h.1 (fun e=>by injection e with e2;exact h1 e2) u,zi0 h.2.1 (fun e=>by injection e with e2;exact h1 e2) u,zi0 h.2.2.1 (fun e=>by injection e with e2;exact h1 e2) u,zi0 h.2.2.2 (fun e=>by injection e with e2;exact h2 e2) u⟩
theorem zG5 {w0:World} {g:Nat} {s:ByteArray} {L:List Tok} {vL:Value} {d Lv:Nat} (hL:Lv+d=33)(HKI: ∀d',d=d'+1->PKidsOk w0 g s L vL d' Lv):PValOk w0 g s L vL d Lv:=by
 intro k r W ka kb h;have hb0:=za0 W (.cells #[.int .i64 (ka:Int),.int .i64 (kb:Int)] 44);have HR1:=hq (h.grow hb0);have HF1:=hq (Fr.of_below (r.own g) hb0);have HX1:=hq (Whole.made W 44 #[.int .i64 (ka:Int),.int .i64 (kb:Int)]);have HGL:=hq h.blk.lt;have HPB:Hq (∀(wh:Nat) (er:Int) W',za4 s.size (za3 s) d (L.drop k) (ka,kb) r.ns= .inl (wh,er)->Pd w0 g s L vL k (r.bad (wh:Int) er) W'->Fr (r.own g) (r.own g) W W'->zl5 w0 g s L vL d (ka,kb) k r W (.returned (.bool false)) W'):=hq (fun wh er W' h1 h2 h3=>by
  unfold zl5;rw[h1];exact⟨rfl,k,_,h2,h3,rfl,rfl⟩)
 obtain⟨PP,hPP⟩: ∃PP,PP=zl5 w0 g s L vL d (ka,kb) k r W:=⟨_,rfl⟩;have HPP:=hq hPP;rw[←hPP]at HPB ⊢;have HCK:=hq (fun W' (hr:Pd w0 g s L vL k r W')=>zy1 hr);have HCW:=hq (fun W' er (hr:Pd w0 g s L vL k r W')=>zn7 hr er);have HK0:=hq (fun (h:zb8 (zb0 L k)=0)=>valueM_at0 (s:=s) (d:=d) (tx:=za3 s) (key:=(ka,kb)) (ns:=r.ns) h);have HK1:=hq (fun (h:zb8 (zb0 L k)≠0)=>valueM_at1 (s:=s) h);have HCS:=hq (pscalar_any (zb0 L k));have HTW:=hq (kindM_two (zb0 L k));have hlz:(Lv:Int)<=33:=by omega
 clear hPP h;generalize hkk:zb0 L k=kk at *;have HKK:=hq hkk;clear hkk hb0;go_enter Tryz.func119,Tryz.ntmps119
 go_upto_region 1 with fail
 go_cut [7] from 10 to 12 (fun kd wx=>kd= .int .i64 ((if zb8 kk<=4 then zb8 kk else 0:Nat):Int)/\Hq (Below (W.alloc (.cells #[.int .i64 (ka:Int),.int .i64 (kb:Int)] 44)).heap.size (W.alloc (.cells #[.int .i64 (ka:Int),.int .i64 (kb:Int)] 44)) wx))
 case first=>
  go_wp2_with fail
  refine(HCK.o _ HR1.o).mono ?_;rintro e W2 ⟨rfl,hb⟩;have HB:=hq hb;clear hb;go_wp2_with fail
  refine(HCS.o W2).mono ?_;rintro e W3 ⟨rfl,rfl⟩;generalize (if zb8 kk<=4 then zb8 kk else 0)=sc at *;go_wp2_with fail
  go_meet
  exact⟨rfl,HB⟩
 obtain⟨rfl,hb⟩:=hcut;have HR2:=hq (HR1.o.grow hb.o);have HF2:=hq (HF1.o.trans (Fr.of_below _ hb.o));have HX2:=hq (HX1.o.grow hb.o);clear hb HR1 HF1 HX1 HCS;generalize (if zb8 kk<=4 then zb8 kk else 0)=sc at *;generalize wc=W2 at *
 apply_assumption
 apply wp_seq_k;intro KX hKX
 go_cut [7] from 13 to 15 (fun kd wx=>kd= .int .i64 ((if kk=4 then 5 else sc:Nat):Int)/\Hq (Below W2.heap.size W2 wx))
 case first=>
  go_wp2_with fail
  refine(HCK.o _ HR2.o).mono ?_;rintro e W3 ⟨rfl,hb⟩;have HB:=hq hb;clear hb;by_cases h4:kk=4
  ·have h4z:((kk:Int)==4)=true:=by rw[beq_iff_eq];omega
   have H4:=hq h4;clear h4;go_wp2_with fail
   go_meet
   exact⟨by rw[if_pos H4.o]<;>rfl,HB⟩
  ·have h4z:((kk:Int)==4)=false:=by rw[beq_eq_false_iff_ne];omega
   have H4:=hq h4;clear h4;go_wp2_with fail
   go_meet
   exact⟨by rw[if_neg H4.o],HB⟩
 case rest=>
  obtain⟨rfl,hb⟩:=hcut;have HR3:=hq (HR2.o.grow hb.o);have HF3:=hq (HF2.o.trans (Fr.of_below _ hb.o));have HX3:=hq (HX2.o.grow hb.o);clear hb HR2 HF2 HX2;have HTW2:Hq ((if kk=2 then 6 else if kk=4 then 5 else sc)=zb8 kk):=HTW;generalize (if kk=4 then 5 else sc)=sd at *
  apply_assumption
  apply wp_seq_k;intro KX hKX
  go_cut [7] from 16 to 18 (fun kd wx=>kd= .int .i64 (zb8 kk:Int)/\Hq (Below wc.heap.size wc wx))
  case first=>
   go_wp2_with fail
   refine(HCK.o _ HR3.o).mono ?_;rintro e W4 ⟨rfl,hb⟩;have HB:=hq hb;clear hb;by_cases h4:kk=2
   ·have h4z:((kk:Int)==2)=true:=by rw[beq_iff_eq];omega
    have H4:=hq h4;clear h4;go_wp2_with fail
    go_meet
    exact⟨by rw[←HTW2.o,if_pos H4.o]<;>rfl,HB⟩
   ·have h4z:((kk:Int)==2)=false:=by rw[beq_eq_false_iff_ne];omega
    have H4:=hq h4;clear h4;go_wp2_with fail
    go_meet
    exact⟨by rw[←HTW2.o,if_neg H4.o]<;>rfl,HB⟩
  case rest=>
   obtain⟨rfl,hb⟩:=hcut;have HR4:=hq (HR3.o.grow hb.o);have HF4:=hq (HF3.o.trans (Fr.of_below _ hb.o));have HX4:=hq (HX3.o.grow hb.o);clear HTW HTW2 hb HR3 HF3 HX3;generalize wc=W4 at *;by_cases hk0:zb8 kk=0
   ·have HV0:=hq (fun W'=>HPB.o (zc4 s L k) 2 W' (HK0.o hk0));have hkz:((zb8 kk:Nat):Int)=0:=by omega
    rw[hkz];have HC:=hq (HCW.o _ 2 HR4.o);clear HK0 HK1 HPB HPP HCK HCW HKI hk0 hkz;go_wp2_with fail
    refine HC.o.mono ?_;rintro e W5 ⟨rfl,hr5,hf5⟩;have HVV:=hq (HV0.o _ hr5 (HF4.o.trans hf5));clear HC HV0 hr5 hf5 HR4 HF4 HX4;go_wp2_with fail
    first|exact HVV.o|(go_ret;exact HVV.o)
   ·obtain ⟨hkl,e1,e2,e3⟩:=HK1.o hk0;have hkz: ¬((zb8 kk:Nat):Int)=0:=by omega
    have hkb:(((zb8 kk:Nat):Int)==0)=false:=beq_eq_false_iff_ne.2 hkz;cases d with
    |zero=>
     have hv:za4 s.size (za3 s) 0 (L.drop k) (ka,kb) r.ns= .inl (zc4 s L k,5):=by rw[e3,e2];exact zE2 (by rw[←e1];exact hk0)
     have HV0:=hq (fun W'=>HPB.o (zc4 s L k) 5 W' hv);have hlz2:(32:Int)<(Lv:Int):=by omega
     have HC:=hq (HCW.o _ 5 HR4.o);clear HK0 HK1 HPB HPP HCK HCW HKI hk0 e1 e2 e3 hv;generalize ((zb8 kk:Nat):Int)=kz at *;go_wp2_with fail
     refine HC.o.mono ?_;rintro e W5 ⟨rfl,hr5,hf5⟩;have HVV:=hq (HV0.o _ hr5 (HF4.o.trans hf5));clear HC HV0 hr5 hf5 HR4 HF4 HX4;go_wp2_with fail
     first|exact HVV.o|(go_ret;exact HVV.o)
    |succ d=>
     have hlz2: ¬(32:Int)<(Lv:Int):=by omega
     obtain⟨_,cT,na,nc,eL,hnv,c0,c1,c2,c3,_,_,cf⟩:=HR4.o.cells;by_cases hfull:r.nv.length=4096
     ·have hv:za4 s.size (za3 s) (d+1) (L.drop k) (ka,kb) r.ns= .inl (zc4 s L k,6):=by rw[e3,e2];exact zE0 (by rw[←e1];exact hk0) (by rw[RS.ns_len];exact hfull)
      have HV0:=hq (fun W'=>HPB.o (zc4 s L k) 6 W' hv);have hfz:(4096:Int)<=((r.nv.length:Nat):Int):=by omega
      have HC:=hq (HCW.o _ 6 HR4.o);clear HK0 HK1 HPB HPP HCK HCW HKI hk0 e1 e2 e3 hv hfull hnv eL;generalize ((zb8 kk:Nat):Int)=kz at *;go_wp2_with fail
      refine HC.o.mono ?_;rintro e W5 ⟨rfl,hr5,hf5⟩;have HVV:=hq (HV0.o _ hr5 (HF4.o.trans hf5));clear HC HV0 hr5 hf5 HR4 HF4 HX4;go_wp2_with fail
      first|exact HVV.o|(go_ret;exact HVV.o)
     ·have hn4:=HR4.o.n4;have hfz: ¬(4096:Int)<=((r.nv.length:Nat):Int):=by omega
      obtain⟨gT,cT2,eL2,t0,t1,t2⟩:=HR4.o.tok hkl;have HTV:=hq eL2;have eLL:=eL.symm.trans eL2;cases eLL;have hkli:(k:Int)<(L.length:Int):=by omega
      have HVS:Hq (za4 s.size (za3 s) (d+1) (L.drop k) (ka,kb) r.ns=if zb8 kk=5 then zh8 (za4 s.size (za3 s) d) false s.size (za3 s) r.ns.length (L.drop (k+1)) (r.ns++[ze9 L[k] (ka,kb)]) else if zb8 kk=6 then zh8 (za4 s.size (za3 s) d) true s.size (za3 s) r.ns.length (L.drop (k+1)) (r.ns++[ze9 L[k] (ka,kb)]) else .inr (L.drop (k+1),r.ns++[ze9 L[k] (ka,kb)])):=hq (by
       rw[e3]
       conv=>lhs;unfold za4
       rw[←e1,if_neg hk0,if_neg (by rw[RS.ns_len];exact hfull)])
      have HTK:=hq (show L[k]?=some L[k] from List.getElem?_eq_getElem hkl);have hkd:zb8 L[k].1=zb8 kk:=by rw[e1]
      clear HK0 HK1 HPB HCK HCW hk0 e1 e2 e3 eL eL2 t0;generalize L[k]=t at *;obtain⟨kd,ta,tb⟩:=t;simp only at t1 t2 hkd;have x0:=HX4.o.at_ 0;have x1:=HX4.o.at_ 1;have hb5:=(za0 W4 (.cells #[.int .i64 (zb8 kk:Int),.int .i64 (ta:Int),.int .i64 (tb:Int),.int .i64 (ka:Int),.int .i64 (kb:Int),.slice none 0 0,.slice none 0 0] 149)).drew;have HBL5:=hq hb5;have HR5:=hq (HR4.o.grow hb5);have e2a:=((za0 W4 (.cells #[.int .i64 (zb8 kk:Int),.int .i64 (ta:Int),.int .i64 (tb:Int),.int .i64 (ka:Int),.int .i64 (kb:Int),.slice none 0 0,.slice none 0 0] 149)).cell (zb2 c3)).trans c3;have HND:=hq hnv;have HNR:=hq HR5.o.nd;rw[HND.o]at HNR;have hwx:w0.heap.size<=W4.heap.size:=HR4.o.bl.size;have hlt4:r.nv.length<4096:=by omega
      have HBK:=hq HR5.o.blk;have HNG:=hq HR5.o.ng;rw[HND.o]at HBK HNG;have HNT:Hq ((Value.slice na r.nv.length nc).ownBlock≠some gT):=hq (fun e=>by
       have h1:=zb1 HR5.o.nd HR5.o.tk (by decide) gT (by rw[HND.o];exact e);exact h1 (by rw[HTV.o];rfl))
      have HNX:Hq ((Value.slice na r.nv.length nc).ownBlock≠some W.heap.size):=hq (fun e=>zc1 HR4.o.nd HX4.o (by decide) (by rw[HND.o];exact e));have HGT:Hq (g≠gT):=hq (fun e=>HR4.o.tg (by rw[HTV.o,e];rfl));have HGK:Hq (g≠W.heap.size):=hq (Nat.ne_of_lt HGL.o);generalize hbK:W.heap.size=bK at *;clear hbK;obtain⟨i1,hi1,hy0,hy1,hy2⟩:=info_parts infoNd;have HKD:=hq hkd;clear hb5 hnv hkd hfull;generalize hkz0:((zb8 kk:Nat):Int)=kz at *;go_upto_region 13 with fail
      have HS5:=hq (six_grow (And.intro c1 (And.intro c2 (And.intro t1 (And.intro t2 (And.intro x0 x1))))) (za0 W4 (.cells #[.int .i64 kz,.int .i64 (ta:Int),.int .i64 (tb:Int),.int .i64 (ka:Int),.int .i64 (kb:Int),.slice none 0 0,.slice none 0 0] 149)));rw[show (Op.load 76 (.tmp 43))=opQ (Op.load 76 (.tmp 43)) from rfl];have hld:opQ (Op.load 76 (.tmp 43))=Op.load 76 (.tmp 43):=rfl
      go_region_held3 (fun W=>W.cell? ⟨g,1,none⟩=some (.slice (some ⟨gT,0,none⟩) L.length cT)/\W.cell? ⟨g,2,none⟩=some (.int .i64 (k:Int))/\W.cell? ⟨gT,k*3+1,none⟩=some (.int .i64 (ta:Int))/\W.cell? ⟨gT,k*3+2,none⟩=some (.int .i64 (tb:Int))/\W.cell? ⟨bK,0,none⟩=some (.int .i64 (ka:Int))/\W.cell? ⟨bK,1,none⟩=some (.int .i64 (kb:Int)))
       (first|exact ⟨c1,c2,t1,t2,x0,x1⟩|exact HS5.o|exact hT6|exact six_put hT6 HGT.o HGK.o (by decide) (by decide) _)
       ((refine zw5 rfl (.tmp 44) (.tmp 59) 76 rfl w0.heap.size 149 i1 (.agg #[.int .i64 0,.int .i64 0,.int .i64 0,.int .i64 0,.int .i64 0,.slice none 0 0,.slice none 0 0]) 7 88 Tryz.underlying76 hi1 hy0 hy1 hy2 rfl (by decide) (.slice na r.nv.length nc) r.nv.length (zd4 r.nv) (by simp[Act.eval]) HNR.o ⟨W4.heap.size,0,none⟩ 1 1 [.int .i64 kz,.int .i64 (ta:Int),.int .i64 (tb:Int),.int .i64 (ka:Int),.int .i64 (kb:Int),.slice none 0 0,.slice none 0 0] (by simp[Act.eval]) rfl (ze0 W4 [.int .i64 kz,.int .i64 (ta:Int),.int .i64 (tb:Int),.int .i64 (ka:Int),.int .i64 (kb:Int),.slice none 0 0,.slice none 0 0] _) (by simp[Value.oneCell']) (by unfold maxLen;omega) (by omega) (by show w0.heap.size<=(W4.alloc _).heap.size;rw[World.size_alloc];omega) ?_;intro v' W6 hown6 hgrow6 hat6;obtain⟨g6,c6,rfl⟩:=zj0 hown6;have HWK:=hq (ze8 HBK.o hgrow6 (fun b e hb=>HNG.o (by rw[e,hb])));have f2:=HWK.o.at_ 3;have ff:=HWK.o.free;have hT6:=six_grown (by exact HS5.o) hgrow6 HNG.o HNG.o HNT.o HNT.o HNX.o HNX.o))
      all_goals
       have happ:=HR5.o.app (n:=ze9 (kd,ta,tb) (ka,kb)) (v':= .slice (some ⟨g6,0,none⟩) (r.nv.length+1) c6) (W':=W6) rfl rfl hlt4 (by
        have e1:ze (newN (ze9 (kd,ta,tb) (ka,kb)))=[.int .i64 kz,.int .i64 (ta:Int),.int .i64 (tb:Int),.int .i64 (ka:Int),.int .i64 (kb:Int),.slice none 0 0,.slice none 0 0]:=by rw[←hkz0,←HKD.o];rfl
        rw[zw1,e1];exact hown6) (by show World.grownBy _ W6 r.vN.ownBlock;rw[HND.o];exact hgrow6) (by show _=r.vN.ownBlock\/_;rw[HND.o];exact hat6)
       obtain⟨r7,HR7,HF7,hns7,hl7⟩: ∃r7:RS,Hq (Pd w0 g s L vL k r7 (W6.setCell ⟨g,3,none⟩ (.slice (some ⟨g6,0,none⟩) (r.nv.length+1) c6)))/\Hq (Fr (r.own g) (r7.own g) W (W6.setCell ⟨g,3,none⟩ (.slice (some ⟨g6,0,none⟩) (r.nv.length+1) c6)))/\Hq (r7.ns=r.ns++[ze9 (kd,ta,tb) (ka,kb)])/\r7.nv.length=r.nv.length+1:=
        ⟨_,hq happ.1,hq ((HF4.o.trans (Fr.of_below _ HBL5.o)).trans happ.2),hq (app_ns _ _ _),by unfold RS.app;simp⟩
       clear happ hown6 hgrow6 hat6 HWK f2 ff HR5 HNR HBK HNG HBL5 HR4 HF4 HX4 x0 x1 c0 c1 c2 c3 t1 t2 cf e2a hT6 HS5 HNT HNX HGK;go_simp
       generalize W6.setCell ⟨g,3,none⟩ (.slice (some ⟨g6,0,none⟩) (r.nv.length+1) c6)=W7 at *;obtain⟨_,_,_,_,_,_,_,_,c2,_,_,_,cf⟩:=HR7.o.cells;have HSTP:=hq (HR7.o.step (k1:=k+1) (by omega));have HFS:=hq (HF7.o.trans (HR7.o.stepF (.int .i64 ((k+1:Nat):Int))));have e5:((k+1:Nat):Int)=(k:Int)+1:=by omega
       rw[e5]at HSTP HFS;have hkl9:=HR7.o.tl9;unfold maxLen at hkl9;clear e5 HR7 HF7;go_upto_region 16 with fail
       by_cases h5:zb8 kk=5
       ·have HSEL:Hq ((if zb8 kk=5 then zh8 (za4 s.size (za3 s) d) false s.size (za3 s) r.ns.length (L.drop (k+1)) (r.ns++[ze9 (kd,ta,tb) (ka,kb)]) else if zb8 kk=6 then zh8 (za4 s.size (za3 s) d) true s.size (za3 s) r.ns.length (L.drop (k+1)) (r.ns++[ze9 (kd,ta,tb) (ka,kb)]) else .inr (L.drop (k+1),r.ns++[ze9 (kd,ta,tb) (ka,kb)]))=zh8 (za4 s.size (za3 s) d) false s.size (za3 s) r.ns.length (L.drop (k+1)) (r.ns++[ze9 (kd,ta,tb) (ka,kb)])):=hq (if_pos h5);have HC:=hq (HKI d rfl false r.nv.length (k+1) r7 _ HSTP.o (by omega) (by omega) (fun t ht=>by
         rw[Nat.add_sub_cancel,HTK.o]at ht;rw[←Option.some.inj ht,hns7.o,←RS.ns_len];exact toN_leaf _ _ _))
        rw[show ((ze7 false:Nat):Int)=5 from rfl]at HC;unfold zo8 at HC;have hk5:(kz==5)=true:=by rw[beq_iff_eq];omega
        have hk6:(kz==6)=false:=by rw[beq_eq_false_iff_ne];omega
        clear HSTP;cases hlm:zh8 (za4 s.size (za3 s) d) false s.size (za3 s) r.nv.length (L.drop (k+1)) r7.ns with
        |inl p=>
         obtain⟨wh,er⟩:=p;rw[hlm]at HC;have hv:za4 s.size (za3 s) (d+1) (L.drop k) (ka,kb) r.ns= .inl (wh,er):=(HVS.o.trans HSEL.o).trans (by rw[←hns7.o,RS.ns_len];exact hlm);clear hlm HVS HSEL;go_wp2_with fail
         refine HC.o.mono ?_;rintro e W9 ⟨rfl,k',r',h1,h2,h3,h4⟩;have HVV:Hq (PP (.returned (.bool false)) W9):=hq (by
          rw[HPP.o];unfold zl5;rw[hv];exact⟨rfl,k',r',h1,HFS.o.trans h2,h3,h4⟩)
         clear h1 h2 h3 h4 hv HPP HC;go_wp2_with fail
         first|exact HVV.o|(go_ret;exact HVV.o)
        |inr p=>
         obtain⟨l,ns'⟩:=p;rw[hlm]at HC;have hv:za4 s.size (za3 s) (d+1) (L.drop k) (ka,kb) r.ns= .inr (l,ns'):=(HVS.o.trans HSEL.o).trans (by rw[←hns7.o,RS.ns_len];exact hlm);clear hlm HVS HSEL;go_wp2_with fail
         refine HC.o.mono ?_;rintro e W9 ⟨rfl,k',r',t',h1,h2,h3,h4,h5',h6,h7⟩;have HFa:=HFS.o.trans h2;clear h2 HC;obtain⟨q,hkq⟩: ∃q,k'=q+1:=⟨k'-1,by omega⟩;rw[hkq,Nat.add_sub_cancel]at h6;have hqL:q<L.length:=(List.getElem?_eq_some_iff.1 h6).1;have hqt:L[q]=t':=(List.getElem?_eq_some_iff.1 h6).2;obtain⟨gU,cU,eU,_,_,u2⟩:=h1.tok hqL;rw[hqt]at u2;obtain⟨_,cV,_,cM,eV,eN,_,d1,d2,d3,_,_,_⟩:=h1.cells;have eUV:=eV.symm.trans eU;cases eUV;obtain⟨gN,cN,hvN,hcN,hmN,hfN,hnode⟩:=h1.node h4;have n2:=hnode 2 (by omega);simp only[ze,List.getElem?_cons_succ,List.getElem?_cons_zero]at n2;have eNN:=eN.symm.trans hvN;cases eNN;have hcl:=(h1.grow (Below.refl W9.heap.size W9).drew).close h4 hvN t'.2.2;have HVV:Hq (PP (.returned (.bool true)) (W9.drew.setCell ⟨gN,r.nv.length*7+2,none⟩ (.int .i64 (t'.2.2:Int)))):=hq (by
          rw[HPP.o];unfold zl5;rw[hv];exact⟨rfl,k',_,hcl.1,(HFa.trans (Fr.of_below _ (Below.refl W9.heap.size W9).drew)).trans hcl.2,h3,(zv1 r' h4 t'.2.2).trans h7⟩)
         have hL9:=h1.tl9;unfold maxLen at hL9;have htm:=h1.tm;have ec:IntKind.i64.wrap ((k':Int)-1)=(q:Int):=by rw[IntWalk.i64_in _ (by omega)];omega
         have hne1:gN≠g:=fun e=>h1.ng (by rw[hvN,e];rfl)
         have hne2:gN≠gU:=fun e=>zb1 h1.nd h1.tk (by decide) gN (by rw[hvN];rfl) (by rw[eU,e];rfl)
         have hnz:(r.nv.length:Int)<(r'.nv.length:Int):=by omega
         have hqz:(q:Int)<(L.length:Int):=by omega
         clear hcl hkq hv h1 h3 h7 h6 hqt hnode HFa HPP eN eV hvN eU hcN hmN;go_upto_region 21 with fail
         go_region_held3 (fun W=>W.cell? ⟨g,1,none⟩=some (.slice (some ⟨gU,0,none⟩) L.length cU)/\W.cell? ⟨g,2,none⟩=some (.int .i64 (k':Int))/\W.cell? ⟨g,3,none⟩=some (.slice (some ⟨gN,0,none⟩) r'.nv.length cM)/\W.cell? ⟨gU,q*3+2,none⟩=some (.int .i64 (t'.2.2:Int)))
          (first|exact ⟨d1,d2,d3,u2⟩|exact zQ1 ⟨d1,d2,d3,u2⟩ hne1 hne2 _)
          (fail)
         go_wp2_with fail
         first|exact HVV.o|(go_ret;exact HVV.o)
       ·by_cases h6k:zb8 kk=6
        ·have HSEL:Hq ((if zb8 kk=5 then zh8 (za4 s.size (za3 s) d) false s.size (za3 s) r.ns.length (L.drop (k+1)) (r.ns++[ze9 (kd,ta,tb) (ka,kb)]) else if zb8 kk=6 then zh8 (za4 s.size (za3 s) d) true s.size (za3 s) r.ns.length (L.drop (k+1)) (r.ns++[ze9 (kd,ta,tb) (ka,kb)]) else .inr (L.drop (k+1),r.ns++[ze9 (kd,ta,tb) (ka,kb)]))=zh8 (za4 s.size (za3 s) d) true s.size (za3 s) r.ns.length (L.drop (k+1)) (r.ns++[ze9 (kd,ta,tb) (ka,kb)])):=hq ((if_neg h5).trans (if_pos h6k));have HC:=hq (HKI d rfl true r.nv.length (k+1) r7 _ HSTP.o (by omega) (by omega) (fun t ht=>by
          rw[Nat.add_sub_cancel,HTK.o]at ht;rw[←Option.some.inj ht,hns7.o,←RS.ns_len];exact toN_leaf _ _ _))
         rw[show ((ze7 true:Nat):Int)=3 from rfl]at HC;unfold zo8 at HC;have hk5:(kz==5)=false:=by rw[beq_eq_false_iff_ne];omega
         have hk6:(kz==6)=true:=by rw[beq_iff_eq];omega
         clear HSTP;cases hlm:zh8 (za4 s.size (za3 s) d) true s.size (za3 s) r.nv.length (L.drop (k+1)) r7.ns with
         |inl p=>
          obtain⟨wh,er⟩:=p;rw[hlm]at HC;have hv:za4 s.size (za3 s) (d+1) (L.drop k) (ka,kb) r.ns= .inl (wh,er):=(HVS.o.trans HSEL.o).trans (by rw[←hns7.o,RS.ns_len];exact hlm);clear hlm HVS HSEL;go_wp2_with fail
          refine HC.o.mono ?_;rintro e W9 ⟨rfl,k',r',h1,h2,h3,h4⟩;have HVV:Hq (PP (.returned (.bool false)) W9):=hq (by
           rw[HPP.o];unfold zl5;rw[hv];exact⟨rfl,k',r',h1,HFS.o.trans h2,h3,h4⟩)
          clear h1 h2 h3 h4 hv HPP HC;go_wp2_with fail
          first|exact HVV.o|(go_ret;exact HVV.o)
         |inr p=>
          obtain⟨l,ns'⟩:=p;rw[hlm]at HC;have hv:za4 s.size (za3 s) (d+1) (L.drop k) (ka,kb) r.ns= .inr (l,ns'):=(HVS.o.trans HSEL.o).trans (by rw[←hns7.o,RS.ns_len];exact hlm);clear hlm HVS HSEL;go_wp2_with fail
          refine HC.o.mono ?_;rintro e W9 ⟨rfl,k',r',t',h1,h2,h3,h4,h5',h6,h7⟩;have HFa:=HFS.o.trans h2;clear h2 HC;obtain⟨q,hkq⟩: ∃q,k'=q+1:=⟨k'-1,by omega⟩;rw[hkq,Nat.add_sub_cancel]at h6;have hqL:q<L.length:=(List.getElem?_eq_some_iff.1 h6).1;have hqt:L[q]=t':=(List.getElem?_eq_some_iff.1 h6).2;obtain⟨gU,cU,eU,_,_,u2⟩:=h1.tok hqL;rw[hqt]at u2;obtain⟨_,cV,_,cM,eV,eN,_,d1,d2,d3,_,_,_⟩:=h1.cells;have eUV:=eV.symm.trans eU;cases eUV;obtain⟨gN,cN,hvN,hcN,hmN,hfN,hnode⟩:=h1.node h4;have n2:=hnode 2 (by omega);simp only[ze,List.getElem?_cons_succ,List.getElem?_cons_zero]at n2;have eNN:=eN.symm.trans hvN;cases eNN;have hcl:=(h1.grow (Below.refl W9.heap.size W9).drew).close h4 hvN t'.2.2;have HVV:Hq (PP (.returned (.bool true)) (W9.drew.setCell ⟨gN,r.nv.length*7+2,none⟩ (.int .i64 (t'.2.2:Int)))):=hq (by
           rw[HPP.o];unfold zl5;rw[hv];exact⟨rfl,k',_,hcl.1,(HFa.trans (Fr.of_below _ (Below.refl W9.heap.size W9).drew)).trans hcl.2,h3,(zv1 r' h4 t'.2.2).trans h7⟩)
          have hL9:=h1.tl9;unfold maxLen at hL9;have htm:=h1.tm;have ec:IntKind.i64.wrap ((k':Int)-1)=(q:Int):=by rw[IntWalk.i64_in _ (by omega)];omega
          have hne1:gN≠g:=fun e=>h1.ng (by rw[hvN,e];rfl)
          have hne2:gN≠gU:=fun e=>zb1 h1.nd h1.tk (by decide) gN (by rw[hvN];rfl) (by rw[eU,e];rfl)
          have hnz:(r.nv.length:Int)<(r'.nv.length:Int):=by omega
          have hqz:(q:Int)<(L.length:Int):=by omega
          clear hcl hkq hv h1 h3 h7 h6 hqt hnode HFa HPP eN eV hvN eU hcN hmN;go_upto_region 21 with fail
          go_region_held3 (fun W=>W.cell? ⟨g,1,none⟩=some (.slice (some ⟨gU,0,none⟩) L.length cU)/\W.cell? ⟨g,2,none⟩=some (.int .i64 (k':Int))/\W.cell? ⟨g,3,none⟩=some (.slice (some ⟨gN,0,none⟩) r'.nv.length cM)/\W.cell? ⟨gU,q*3+2,none⟩=some (.int .i64 (t'.2.2:Int)))
           (first|exact ⟨d1,d2,d3,u2⟩|exact zQ1 ⟨d1,d2,d3,u2⟩ hne1 hne2 _)
           (fail)
          go_wp2_with fail
          first|exact HVV.o|(go_ret;exact HVV.o)
        ·have hv:=(HVS.o.trans ((if_neg h5).trans (if_neg h6k)));have hk5:(kz==5)=false:=by rw[beq_eq_false_iff_ne];omega
         have hk6:(kz==6)=false:=by rw[beq_eq_false_iff_ne];omega
         have e5:((k+1:Nat):Int)=(k:Int)+1:=by omega
         rw[←e5]at HSTP HFS ⊢;generalize W7.setCell ⟨g,2,none⟩ (.int .i64 ((k+1:Nat):Int))=W9 at *;have h1:=HSTP.o;have HFa:=HFS.o;have h4:r.nv.length<r7.nv.length:=by omega
         have h3:L.drop (k+1)=L.drop (k+1):=rfl;have h6:L[k+1-1]?=some (kd,ta,tb):=by rw[Nat.add_sub_cancel];exact HTK.o
         have h5':1<=k+1:=by omega
         obtain⟨r',hr'⟩: ∃r',r'=r7:=⟨_,rfl⟩;obtain⟨t',ht'⟩: ∃t':Tok,t'=(kd,ta,tb):=⟨_,rfl⟩;obtain⟨k',hk'⟩: ∃k',k'=k+1:=⟨_,rfl⟩;have h7:closeN r'.ns r.nv.length t'.2.2=r.ns++[ze9 (kd,ta,tb) (ka,kb)]:=by rw[ht',hr',hns7.o,←RS.ns_len];exact close_leaf _ (kd,ta,tb) _
         rw[←hr']at h1 h4 HFa;rw[←ht']at h6;rw[←hk']at h1 h3 h6 h5' hv;clear ht' HSTP HFS e5 HVS hr' hk' c2 HTK hns7;obtain⟨q,hkq⟩: ∃q,k'=q+1:=⟨k'-1,by omega⟩;rw[hkq,Nat.add_sub_cancel]at h6;have hqL:q<L.length:=(List.getElem?_eq_some_iff.1 h6).1;have hqt:L[q]=t':=(List.getElem?_eq_some_iff.1 h6).2;obtain⟨gU,cU,eU,_,_,u2⟩:=h1.tok hqL;rw[hqt]at u2;obtain⟨_,cV,_,cM,eV,eN,_,d1,d2,d3,_,_,_⟩:=h1.cells;have eUV:=eV.symm.trans eU;cases eUV;obtain⟨gN,cN,hvN,hcN,hmN,hfN,hnode⟩:=h1.node h4;have n2:=hnode 2 (by omega);simp only[ze,List.getElem?_cons_succ,List.getElem?_cons_zero]at n2;have eNN:=eN.symm.trans hvN;cases eNN;have hcl:=(h1.grow (Below.refl W9.heap.size W9).drew).close h4 hvN t'.2.2;have HVV:Hq (PP (.returned (.bool true)) (W9.drew.setCell ⟨gN,r.nv.length*7+2,none⟩ (.int .i64 (t'.2.2:Int)))):=hq (by
          rw[HPP.o];unfold zl5;rw[hv];exact⟨rfl,k',_,hcl.1,(HFa.trans (Fr.of_below _ (Below.refl W9.heap.size W9).drew)).trans hcl.2,h3,(zv1 r' h4 t'.2.2).trans h7⟩)
         have hL9:=h1.tl9;unfold maxLen at hL9;have htm:=h1.tm;have ec:IntKind.i64.wrap ((k':Int)-1)=(q:Int):=by rw[IntWalk.i64_in _ (by omega)];omega
         have hne1:gN≠g:=fun e=>h1.ng (by rw[hvN,e];rfl)
         have hne2:gN≠gU:=fun e=>zb1 h1.nd h1.tk (by decide) gN (by rw[hvN];rfl) (by rw[eU,e];rfl)
         have hnz:(r.nv.length:Int)<(r'.nv.length:Int):=by omega
         have hqz:(q:Int)<(L.length:Int):=by omega
         clear hcl hkq hv h1 h3 h7 h6 hqt hnode HFa HPP eN eV hvN eU hcN hmN;go_upto_region 21 with fail
         go_region_held3 (fun W=>W.cell? ⟨g,1,none⟩=some (.slice (some ⟨gU,0,none⟩) L.length cU)/\W.cell? ⟨g,2,none⟩=some (.int .i64 (k':Int))/\W.cell? ⟨g,3,none⟩=some (.slice (some ⟨gN,0,none⟩) r'.nv.length cM)/\W.cell? ⟨gU,q*3+2,none⟩=some (.int .i64 (t'.2.2:Int)))
          (first|exact ⟨d1,d2,d3,u2⟩|exact zQ1 ⟨d1,d2,d3,u2⟩ hne1 hne2 _)
          (fail)
         go_wp2_with fail
         first|exact HVV.o|(go_ret;exact HVV.o)
theorem Pd.notown {w0 W:World} {g:Nat} {s:ByteArray} {L:List Tok} {vL:Value} {k:Nat} {r:RS} (h:Pd w0 g s L vL k r W) {B n size:Nat} {v:Value} {xs:List Value} (hr:W.ownsRow B 9 size v n xs): ∀q,v.ownBlock=some q-> ¬r.own g q:=fun q hq ho=>by
 rcases ho with rfl|ho|⟨i,hi,ho|ho⟩
 ·exact zc1 hr h.blk (by decide) hq
 ·exact zb1 hr h.nd (by decide) q hq ho
 ·exact zb1 hr (h.kr i hi) (by decide) q hq ho
 ·exact zb1 hr (h.pr i hi) (by decide) q hq ho
theorem zq0 {o o':Nat->Prop} {W W':World} {B e n size:Nat} {v:Value} {xs:List Value} (h:W.ownsRow B e size v n xs)(f:Fr o o' W W')(hno: ∀q,v.ownBlock=some q-> ¬o q):W'.ownsRow B e size v n xs:=by
 refine⟨h.1,?_⟩;rcases h.2 with h1|⟨g,cap,cur,h1,h2,h3,h4⟩
 ·exact .inl h1
 ·have hlt:g<W.heap.size:=(h.lt g (by rw[h1];rfl)).2;exact .inr ⟨g,cap,cur,h1,h2,(f.block g hlt (hno g (by rw[h1];rfl))).trans h3,h4⟩
theorem Fr.newrow {o o':Nat->Prop} {W W' W'':World} (h:Fr o o' W W') {row:Option Nat} (hg:W'.grownBy W'' row)(hr: ∀q,row=some q->W.heap.size<=q):Fr o o' W W'':=
 ⟨hg.os.trans h.os,hg.tape.trans h.tape,hg.output.trans h.output,Nat.le_trans h.size hg.size,fun k hk hn=>(hg.block k (Nat.lt_of_lt_of_le hk h.size) fun e=>by have:=hr k e.symm;omega).trans (h.block k hk hn),h.own⟩
theorem Pd.farRow {w0 W W':World} {g:Nat} {s:ByteArray} {L:List Tok} {vL:Value} {k:Nat} {r:RS} (h:Pd w0 g s L vL k r W) {row:Option Nat} (hg:W.grownBy W' row)(hr: ∀q,row=some q-> ¬r.own g q/\vL.ownBlock≠some q/\w0.heap.size<=q):Pd w0 g s L vL k r W':=by
 refine⟨ze8 h.blk hg fun b e e2=>(hr b e).1 (.inl e2),za5 h.tk hg fun b e=>(hr b e).2.1,h.tl,h.tm,?_,?_,?_,h.ak,h.ap,h.bl.grown hg h.bl.size fun q e=>(hr q e).2.2,h.gl,h.n4,h.kl⟩
 ·exact za5 h.nd hg fun b e e2=>(hr b e).1 (.inr (.inl e2))
 ·exact fun i hi=>za5 (h.kr i hi) hg fun b e e2=>(hr b e).1 (.inr (.inr ⟨i,hi,.inl e2⟩))
 ·exact fun i hi=>za5 (h.pr i hi) hg fun b e e2=>(hr b e).1 (.inr (.inr ⟨i,hi,.inr e2⟩))
theorem infoStrP:(Tryz.prog.info? 9).map (fun i=>(i.zero,i.size,i.bytes))=some (some (.string ⟨#[]⟩),1,16):=by kernel_rfl
theorem row_set2 {W:World} {B e n size b:Nat} {v:Value} {xs:List Value} (h:W.ownsRow B e size v n xs)(hne:v.ownBlock≠some b)(u0 u1:Value):(set2 W b u0 u1).ownsRow B e size v n xs:=by
 have h1:=za5 h (zi6 W ⟨b,0,none⟩ u0) fun q e e2=>by cases e;exact hne e2
 exact za5 h1 (zi6 _ ⟨b,1,none⟩ u1) fun q e e2=>by cases e;exact hne e2
theorem strC_snoc(had:List Bs)(x:Bs):strC (had++[x])=strC had++[.string (st x)]:=by simp[strC]
def KidAs(s:ByteArray)(L:List Tok)(d:Nat)(ob:Bool)(k4:Nat)(r:RS)(had had':List Bs)(k5 ka kb:Nat):Prop:=
 kidM (za4 s.size (za3 s) d) ob s.size (za3 s) had (L.drop k4) r.ns=match za4 s.size (za3 s) d (L.drop k5) (ka,kb) r.ns with
  | .inl e=> .inl e
  | .inr (l',ns')=> .inr (had',l',ns')
theorem kidAs_false(s:ByteArray)(L:List Tok)(d k4:Nat)(r:RS)(had:List Bs):KidAs s L d false k4 r had had k4 0 0:=by
 unfold KidAs kidM;rw[if_neg (by simp)];cases za4 s.size (za3 s) d (L.drop k4) (0,0) r.ns<;>rfl
theorem kidAs_true {s:ByteArray} {L:List Tok} {d k4:Nat} {r:RS} {had:List Bs} {t:Tok} {l:List Tok} {k5:Nat} (h:keyM s.size (za3 s) had (L.drop k4)= .inr (t,l))(hl:L.drop k5=l):KidAs s L d true k4 r had (had++[za3 s t.2.1 t.2.2]) k5 t.2.1 t.2.2:=by
 unfold KidAs;rw[kidM_keyM,h,hl]
 try simp only
 all_goals (cases za4 s.size (za3 s) d l (t.2.1,t.2.2) r.ns<;>rfl)
theorem Pd.mid {w0 W W':World} {g:Nat} {s:ByteArray} {L:List Tok} {vL:Value} {k0:Nat} {r:RS} (h:Pd w0 g s L vL k0 r W) {k:Nat} (hk:k<r.nv.length) {gN cap:Nat} (hvN:r.vN= .slice (some ⟨gN,0,none⟩) r.nv.length cap) {row:Option Nat} (hg:W.grownBy W' row)(hrow:row=r.nv[k].k.ownBlock\/row=r.nv[k].p.ownBlock):
 (∀j,j<7->W'.cell? ⟨gN,k*7+j,none⟩=(ze r.nv[k])[j]?)/\ ∀o,W'.frozen? ⟨gN,o,none⟩=false:=by
 obtain⟨gN',cap',hv',_,_,hf,hc⟩:=h.node hk;rw[hvN]at hv';cases hv';have hb:W'.heap[gN]?=W.heap[gN]?:=hg.block gN (h.nd.lt gN (by rw[hvN];rfl)).2 fun e=>by
  have hNo:r.vN.ownBlock=some gN:=by rw[hvN];rfl
  rcases hrow with e2|e2
  ·exact zb1 (h.kr k hk) h.nd (by decide) gN (e2.symm.trans e.symm) hNo
  ·exact zb1 (h.pr k hk) h.nd (by decide) gN (e2.symm.trans e.symm) hNo
 exact⟨fun j hj=>(World.cell?_of_block (a:=⟨gN,k*7+j,none⟩) hb).trans (hc j hj),fun o=>(World.frozen?_of_block (a:=⟨gN,o,none⟩) hb).trans (hf o)⟩
theorem Pd.kid {w0 W W':World} {g:Nat} {s:ByteArray} {L:List Tok} {vL:Value} {k0:Nat} {r:RS} (h:Pd w0 g s L vL k0 r W) {k:Nat} (hk:k<r.nv.length) {gN cap:Nat} (hvN:r.vN= .slice (some ⟨gN,0,none⟩) r.nv.length cap) {kid:Nat} {v':Value} (hlt:r.nv[k].n.kids.length<r.nv.length)
 (hown:W'.ownsRow w0.heap.size 3 1 v' (r.nv[k].n.kids.length+1) (kidC r.nv[k].n.kids++[.int .i64 (kid:Int)])) (hg:W.grownBy W' r.nv[k].k.ownBlock) (hat:v'.ownBlock=r.nv[k].k.ownBlock\/v'.ownBlock=some W.heap.size):
 Pd w0 g s L vL k0 (r.upd k (kidV r.nv[k] kid v')) (W'.setCell ⟨gN,k*7+5,none⟩ v')/\Fr (r.own g) ((r.upd k (kidV r.nv[k] kid v')).own g) W (W'.setCell ⟨gN,k*7+5,none⟩ v'):=
 h.upd hk hvN (by omega) (by simp[ze,kidV]) hg (.inr (.inl ⟨rfl,rfl,rfl⟩)) (by
  have e1:(kidV r.nv[k] kid v').n.kids.length=r.nv[k].n.kids.length+1:=by simp[kidV]
  have e2:kidC (kidV r.nv[k] kid v').n.kids=kidC r.nv[k].n.kids++[.int .i64 (kid:Int)]:=by simp[kidC,kidV]
  rw[e1,e2];exact hown) (za5 (h.pr k hk) hg fun b e=>zb1 (h.kr k hk) (h.pr k hk) (by decide) b e) hat (.inl rfl) ⟨by simp[kidV];omega,(h.kl k hk).2⟩
theorem Pd.piece {w0 W W':World} {g:Nat} {s:ByteArray} {L:List Tok} {vL:Value} {k0:Nat} {r:RS} (h:Pd w0 g s L vL k0 r W) {k:Nat} (hk:k<r.nv.length) {gN cap:Nat} (hvN:r.vN= .slice (some ⟨gN,0,none⟩) r.nv.length cap) {a b:Nat} {v':Value} (hlt:r.nv[k].n.pcs.length<r.nv.length)
 (hown:W'.ownsRow w0.heap.size 44 2 v' (r.nv[k].n.pcs.length+1) (pcC r.nv[k].n.pcs++[.int .i64 (a:Int),.int .i64 (b:Int)])) (hg:W.grownBy W' r.nv[k].p.ownBlock) (hat:v'.ownBlock=r.nv[k].p.ownBlock\/v'.ownBlock=some W.heap.size):
 Pd w0 g s L vL k0 (r.upd k (pcV r.nv[k] (a,b) v')) (W'.setCell ⟨gN,k*7+6,none⟩ v')/\Fr (r.own g) ((r.upd k (pcV r.nv[k] (a,b) v')).own g) W (W'.setCell ⟨gN,k*7+6,none⟩ v'):=
 h.upd hk hvN (by omega) (by simp[ze,pcV]) hg (.inr (.inr ⟨rfl,rfl,rfl⟩)) (za5 (h.kr k hk) hg fun b e=>zb1 (h.pr k hk) (h.kr k hk) (by decide) b e) (by
  have e1:(pcV r.nv[k] (a,b) v').n.pcs.length=r.nv[k].n.pcs.length+1:=by simp[pcV]
  have e2:pcC (pcV r.nv[k] (a,b) v').n.pcs=pcC r.nv[k].n.pcs++[.int .i64 (a:Int),.int .i64 (b:Int)]:=by simp[pcC,pcV]
  rw[e1,e2];exact hown) (.inl rfl) hat ⟨(h.kl k hk).1,by simp[pcV];omega⟩
theorem one_put {W:World} {g gN o1 q:Nat} {v1:Value} (h:W.cell? ⟨g,o1,none⟩=some v1)(h1:gN≠g)(u:Value):(W.setCell ⟨gN,q,none⟩ u).cell? ⟨g,o1,none⟩=some v1:=zi0 h (fun e=>by injection e with e2;exact h1 e2) u
theorem pkids_step {w0:World} {g:Nat} {s:ByteArray} {L:List Tok} {vL:Value} {d Lv:Nat} (hL:Lv<=33)(hs:s.size<=65536)(hcm: ∀t∈L,t.1=6->t.2.2=t.2.1+1)(HV:PValOk w0 g s L vL d (Lv+1)):PKidsOk w0 g s L vL d Lv:=by
 intro ob n k r W h hn hk htn;have hW0:=h.bl.size;have hL9:=h.tl9;have hkL:=h.tm;unfold maxLen at hL9;obtain⟨q,hkq⟩: ∃q,k=q+1:=⟨k-1,by omega⟩;have hqL:q<L.length:=by omega
 obtain⟨gU,cU,eU,_,_,u2⟩:=h.tok hqL;obtain⟨_,cV,_,cM,eV,eN,_,d1,d2,d3,_,_,_⟩:=h.cells;have eUV:=eV.symm.trans eU;cases eUV;have hfr:L[q].2.2=toN r.ns n:=(htn L[q] (by rw[show k-1=q by omega];exact List.getElem?_eq_getElem hqL)).symm;have ec:IntKind.i64.wrap ((k:Int)-1)=(q:Int):=by rw[IntWalk.i64_in _ (by omega)];omega
 have hqz:(q:Int)<(L.length:Int):=by omega
 obtain⟨PP,hPP⟩: ∃PP,PP=zo8 w0 g s L vL d ob n k r W:=⟨_,rfl⟩;have HPP:=hq hPP;rw[←hPP];have HR:=hq h;have HFQ:=hq hfr;have HLM:Hq (zh8 (za4 s.size (za3 s) d) ob s.size (za3 s) n (L.drop k) r.ns=if ((L.drop k).head?).map (fun t=>t.1)=some (ze7 ob) then .inr ((L.drop k).tail,closeN r.ns n (((L.drop k).head?.map fun t=>t.2.2).getD 0)) else zk6 (za4 s.size (za3 s) d) ob s.size (za3 s) n ((L.drop k).length+1) [] (toN r.ns n) (L.drop k) r.ns):=hq rfl;have hen:2<=ze7 ob/\ze7 ob<=5:=by cases ob<;>decide
 have HBN:=hq (fun m=>below_drewN (Below.refl W.heap.size W) m);clear h hPP hkq hfr htn eU eV eN;generalize hb2:L[q].2.2=fr0 at *;go_enter Tryz.func162,Tryz.ntmps162
 go_wp2_with fail
 go_big_quiet (fail)
 have HB0:=hq (HBN.o nq);generalize W.drewN nq=W1 at *;have HR1:=hq (HR.o.grow HB0.o);have HF1:=hq (Fr.of_below (r.own g) HB0.o);have HCK:=hq (fun k' r' W' (hr:Pd w0 g s L vL k' r' W')=>zy1 hr);clear HBN u2 d1 d2 d3 ec hqz hb2;go_wp2_with fail
 refine(HCK.o _ _ _ HR1.o).mono ?_;rintro e W2 ⟨rfl,hb⟩;have HR2:=hq (HR1.o.grow hb);have HF2:=hq (HF1.o.trans (Fr.of_below _ hb));clear hb HR1 HF1 HB0;by_cases hend:zb0 L k=ze7 ob
 ·have hez:((zb0 L k:Int)==(ze7 ob:Int))=true:=by rw[beq_iff_eq];omega
  have hkl:k<L.length:=by
   rcases Nat.lt_or_ge k L.length with h|h
   ·exact h
   ·unfold zb0 at hend;rw[List.getElem?_eq_none h]at hend;simp at hend;omega
  obtain⟨_,_,_,_,_,_,_,_,c2,_,_,_,cf⟩:=HR2.o.cells;have HST:=hq (HR2.o.step (k1:=k+1) (by omega));have HFS:=hq (HF2.o.trans (HR2.o.stepF (.int .i64 ((k+1:Nat):Int))));have e5:((k+1:Nat):Int)=(k:Int)+1:=by omega
  rw[e5]at HST HFS;have e1:zb0 L k=L[k].1:=by unfold zb0;rw[List.getElem?_eq_getElem hkl];rfl
  have HVV:Hq (PP (.returned (.bool true)) (W2.setCell ⟨g,2,none⟩ (.int .i64 ((k:Int)+1)))):=hq (by
   rw[HPP.o];unfold zo8;rw[HLM.o,List.drop_eq_getElem_cons hkl,if_pos (by rw[List.head?_cons,Option.map_some,←e1,hend])];exact⟨rfl,k+1,r,L[k],HST.o,HFS.o,rfl,hn,by omega,by rw[Nat.add_sub_cancel];exact List.getElem?_eq_getElem hkl,rfl⟩)
  clear HST HFS e5 e1 HPP HLM HV HCK HR HF2 HFQ hend HR2;generalize zb0 L k=kk at *;generalize ze7 ob=en at *;go_wp2_with fail
  first|exact HVV.o|(go_ret;exact HVV.o)
 ·have hez:((zb0 L k:Int)==(ze7 ob:Int))=false:=by rw[beq_eq_false_iff_ne];omega
  have HRR:Hq (zh8 (za4 s.size (za3 s) d) ob s.size (za3 s) n (L.drop k) r.ns=zk6 (za4 s.size (za3 s) d) ob s.size (za3 s) n ((L.drop k).length+1) [] fr0 (L.drop k) r.ns):=hq (by
   rw[HLM.o,if_neg,←HFQ.o];rcases Nat.lt_or_ge k L.length with h|h
   ·rw[List.drop_eq_getElem_cons h];have e1:zb0 L k=L[k].1:=by unfold zb0;rw[List.getElem?_eq_getElem h];rfl
    rw[List.head?_cons,Option.map_some,←e1];exact fun e=>hend (Option.some.inj e)
   ·rw[List.drop_eq_nil_of_le h];simp)
  have HBAD:Hq (∀wh er k' r' W',zh8 (za4 s.size (za3 s) d) ob s.size (za3 s) n (L.drop k) r.ns= .inl (wh,er)->Pd w0 g s L vL k' r' W'->Fr (r.own g) (r'.own g) W W'->r'.wh=(wh:Int)->r'.er=er->PP (.returned (.bool false)) W'):=hq (fun wh er k' r' W' h1 h2 h3 h4 h5=>by
   rw[HPP.o];unfold zo8;rw[h1];exact⟨rfl,k',r',h2,h3,h4,h5⟩)
  have HGOOD:Hq (∀l ns k' r' t W',zh8 (za4 s.size (za3 s) d) ob s.size (za3 s) n (L.drop k) r.ns= .inr (l,ns)->Pd w0 g s L vL k' r' W'->Fr (r.own g) (r'.own g) W W'->L.drop k'=l->n<r'.nv.length->1<=k'->L[k'-1]?=some t->closeN r'.ns n t.2.2=ns->PP (.returned (.bool true)) W'):=hq (fun l ns k' r' t W' h1 h2 h3 h4 h5 h6 h7 h8=>by
   rw[HPP.o];unfold zo8;rw[h1];exact⟨rfl,k',r',t,h2,h3,h4,h5,h6,h7,h8⟩)
  generalize zh8 (za4 s.size (za3 s) d) ob s.size (za3 s) n (L.drop k) r.ns=R at *;have hdl:(L.drop k).length+1=(L.length-k)+1:=by rw[List.length_drop]
  rw[hdl]at HRR;have HENK:=hq hend;clear HPP HLM HFQ hend hdl HR;generalize zb0 L k=kk at *;go_wp2_with fail
  go_loopg [9,10] ((L.length-k)+1) (fun gk hv frv wr=> ∃(k4:Nat) (r4:RS) (had:List Bs) (fr:Nat),frv= .int .i64 (fr:Int)/\n<r4.nv.length/\L.length-k4<gk/\had.length<=r4.nv.length/\Hq (Pd w0 g s L vL k4 r4 wr)/\Hq (wr.ownsRow W.heap.size 9 1 hv had.length (strC had))/\Hq (Fr (r.own g) (r4.own g) W wr)/\Hq (R=zk6 (za4 s.size (za3 s) d) ob s.size (za3 s) n gk had fr (L.drop k4) r4.ns))
  case atStart=>exact⟨k,r,[],fr0,rfl,hn,by omega,Nat.zero_le _,HR2,hq (World.ownsRow_nil _ _ _ _),HF2,HRR⟩
  case round=>
   obtain⟨k4,r4,had,fr,rfl,hn4,hlt,hhl,HR4,HH4,HF4,HR5⟩:=hrel;have hkL4:=HR4.o.tm;obtain⟨f,rfl⟩: ∃f,gk=f+1:=⟨gk-1,by omega⟩;have hn4096:=HR4.o.n4;have HKL4:=hq (HR4.o.kl n hn4);obtain⟨ha,hc,rfl⟩:=ze6 HH4.o;have hb6:=za0 wr (.cells #[.int .i64 0,.int .i64 0] 44);have HR6:=hq (HR4.o.grow hb6);have HF6:=hq (HF4.o.trans (Fr.of_below _ hb6));have HH6:=hq (zq0 HH4.o (Fr.of_below (fun _=>False) hb6) (fun _ _ h=>h));have HX6:Hq (Lo (r4.own g) (wr.alloc (.cells #[.int .i64 0,.int .i64 0] 44)) wr.heap.size 44 #[.int .i64 0,.int .i64 0]):=hq (Lo.new (fun k hk=>(HR4.o.own_lt k hk).2) _ _);have hwr:W.heap.size<=wr.heap.size:=HF4.o.size;have hw0:w0.heap.size<=W.heap.size:=hW0;clear hb6 HR4 HF4 HH4;go_upto_region 6 with fail
   go_cut [11] from 42 to 134 (fun p wx=>p= .pointer (some ⟨wr.heap.size,0,none⟩)/\wr.alloc (.cells #[.int .i64 0,.int .i64 0] 44)=wx)
   case first=>
    go_wp2_with fail
    go_meet
    exact⟨rfl,rfl⟩
   obtain⟨rfl,hwc⟩:=hcut;rw[hwc]at HR6 HF6 HH6 HX6;clear hwc;generalize wr.heap.size=bX at *
   apply_assumption
   apply wp_seq_k;intro KX hKX
   go_cut [9] from 42 to 134 (fun hv wx=> ∃(had':List Bs) (k5 ka kb:Nat),Hq (KidAs s L d ob k4 r4 had had' k5 ka kb)/\had'.length<=had.length+1/\Hq (Pd w0 g s L vL k5 r4 wx)/\Hq (wx.ownsRow W.heap.size 9 1 hv had'.length (strC had'))/\Hq (Fr (r.own g) (r4.own g) W wx)/\Hq (Lo (r4.own g) wx bX 44 #[.int .i64 (ka:Int),.int .i64 (kb:Int)]))
   case first=>
    cases ob with
    |false=>
     rw[show ((ze7 false:Nat):Int)=5 from rfl];go_wp2_with fail
     go_meet
     exact⟨had,k4,0,0,hq (kidAs_false s L d k4 r4 had),by omega,HR6,HH6,HF6,HX6⟩
    |true=>
     rw[show ((ze7 true:Nat):Int)=3 from rfl];have HC:=hq (pkey_any HR6.o HH6.o hs (by omega));unfold zr9 at HC;cases hkm:keyM s.size (za3 s) had (L.drop k4) with
     |inl e=>
      obtain⟨wh,er⟩:=e;rw[hkm]at HC;have hR:R= .inl (wh,er):=HR5.o.trans (zy5 (by rw[kidM_keyM,hkm]));have HB2:=hq (fun k' r' W'=>HBAD.o wh er k' r' W' hR);clear hkm hR HR5 HBAD HGOOD;go_wp2_with fail
      refine HC.o.mono ?_;rintro e W7 ⟨⟨tx,a,b,rfl⟩,⟨k',hp⟩,hf⟩;have HVV:=hq (HB2.o k' _ _ (hp.grow (za0 W7 (.cells #[.int .i64 a,.int .i64 b] 44))) ((HF6.o.trans hf).trans (Fr.of_below _ (za0 W7 (.cells #[.int .i64 a,.int .i64 b] 44)))) rfl rfl);unfold keyV;clear hp hf HC HB2;go_wp2_with fail
      first|exact HVV.o|(go_ret;exact HVV.o)
     |inr p=>
      obtain⟨t,l⟩:=p;rw[hkm]at HC;clear HR5 HBAD HGOOD;go_wp2_with fail
      refine HC.o.mono ?_;rintro e W7 ⟨rfl,⟨k',hp,hdr⟩,hf⟩;obtain⟨kd,ta,tb⟩:=t;dsimp only;have HKA:=hq (kidAs_true (d:=d) (r:=r4) hkm hdr);simp only at HKA;generalize za3 s ta tb=nm at *;have hb8:=za0 W7 (.cells #[.int .i64 (ta:Int),.int .i64 (tb:Int)] 44);have HR8:=hq (hp.grow hb8);have HF8:=hq ((HF6.o.trans hf).trans (Fr.of_below _ hb8));have HH8:=hq (zq0 (zq0 HH6.o hf (HR6.o.notown HH6.o)) (Fr.of_below (fun _=>False) hb8) (fun _ _ h=>h));have HX8:=hq ((HX6.o.step hf).below hb8);have HY8:=hq (Whole.made W7 44 #[.int .i64 (ta:Int),.int .i64 (tb:Int)]);unfold keyV;clear hkm hdr hb8 hp hf HC HR6 HF6 HH6 HX6;go_upto_region 9 with fail
      generalize W7.heap.size=b13 at *;generalize W7.alloc (.cells #[.int .i64 (ta:Int),.int .i64 (tb:Int)] 44)=W8 at *;obtain⟨i0,hi0,hz0,hz1,hz2⟩:=info_parts infoStrP;have hrow:=HH8.o;have hww:=Nat.le_trans hwr (Nat.le_of_lt HX8.o.at_.lt);go_wp2_with (at_builtin;refine wpList_append_own _ rfl _ _ 23 rfl W.heap.size 9 i0 (.string ⟨#[]⟩) 1 16 Tryz.underlying23 hi0 hz0 hz1 hz2 rfl (by decide) _ _ _ rfl (hrow.alloc _) ⟨W8.heap.size,0,none⟩ 1 1 [.string (st nm)] rfl rfl (ze0 _ [.string (st nm)] _) (by simp[Value.oneCell']) (by unfold maxLen;omega) (by omega) (by rw[World.size_alloc];omega) ?_)
      intro v' W9 hown9 hgrow9 _;have hbo:=za0 W8 (.cells #[.string (st nm)] 9);have hne13: ∀b,(Value.slice ha had.length hc).ownBlock=some b->b≠b13:=fun b e e2=>zc1 HH8.o HY8.o (by decide) (by rw[e,e2])
      have hneX: ∀b,(Value.slice ha had.length hc).ownBlock=some b->b≠bX:=fun b e e2=>zc1 HH8.o HX8.o.at_ (by decide) (by rw[e,e2])
      have hy9:=ze8 (HY8.o.grow hbo) hgrow9 hne13;have hx9:=ze8 (HX8.o.at_.grow hbo) hgrow9 hneX;have hr9:Pd w0 g s L vL k' r4 W9:=(HR8.o.grow hbo).farRow hgrow9 (fun q e=>⟨HR8.o.notown HH8.o q e,fun e2=>zb1 HH8.o HR8.o.tk (by decide) q e e2,Nat.le_trans hw0 (HH8.o.lt q e).1⟩);have hf9:=(HF8.o.trans (Fr.of_below _ hbo)).newrow hgrow9 (fun q e=>(HH8.o.lt q e).1);have hvX:vL.ownBlock≠some bX:=zc1 hr9.tk hx9 (by decide);have hvr:v'.ownBlock≠some bX:=zc1 hown9 hx9 (by decide);have HZ:=hq (And.intro (hr9.far2 HX8.o.no hvX (Nat.le_trans hw0 hwr) (.int .i64 (ta:Int)) (.int .i64 (tb:Int))) (And.intro (row_set2 hown9 hvr (.int .i64 (ta:Int)) (.int .i64 (tb:Int))) (And.intro (hf9.new2 hwr (.int .i64 (ta:Int)) (.int .i64 (tb:Int))) (ze3 hx9 (.int .i64 (ta:Int)) (.int .i64 (tb:Int))))));have y0:=hy9.at_ 0;have y1:=hy9.at_ 1;have z0:=hx9.at_ 0;have z1:=hx9.at_ 1;have zf:=hx9.free;have HXN:=hq HX8.o.no;clear hbo hne13 hneX hy9 hx9 hr9 hf9 hvX hvr hgrow9 hown9 hrow HR8 HF8 HH8 HX8 HY8;go_wp2_with fail
      go_meet
      refine⟨had++[nm],k',ta,tb,HKA,by simp,hq HZ.o.1,hq ?_,hq HZ.o.2.2.1,hq ⟨HZ.o.2.2.2,HXN.o⟩⟩;rw[List.length_append,List.length_singleton,strC_snoc];exact HZ.o.2.1
   case rest=>
    obtain⟨had',k5,ka,kb,HKA,hhl2,HR7,HH7,HF7,HX7⟩:=hcut;obtain⟨ha2,hc2,rfl⟩:=ze6 HH7.o;obtain⟨_,cT,na,nc,eV2,eN2,_,_,_,c3,_,_,cf⟩:=HR7.o.cells;have x0:=HX7.o.at_.at_ 0;have x1:=HX7.o.at_.at_ 1;have HC:=hq (HV k5 r4 wc ka kb HR7.o);rw[show ((Lv+1:Nat):Int)=(Lv:Int)+1 by omega]at HC;unfold zl5 at HC;have HNO:=hq (HR7.o.notown HH7.o);have HKI:Hq (kidM (za4 s.size (za3 s) d) ob s.size (za3 s) had (L.drop k4) r4.ns=match za4 s.size (za3 s) d (L.drop k5) (ka,kb) r4.ns with
     | .inl e=> .inl e
     | .inr (l',ns')=> .inr (had',l',ns')):=hq HKA.o
    clear eV2 eN2 HKA HX7;cases hvm:za4 s.size (za3 s) d (L.drop k5) (ka,kb) r4.ns with
    |inl e=>
     obtain⟨wh,er⟩:=e;rw[hvm]at HC;have hR:R= .inl (wh,er):=HR5.o.trans (zy5 (by rw[HKI.o,hvm]));have HB2:=hq (fun k' r' W'=>HBAD.o wh er k' r' W' hR);clear hvm hR HR5 HBAD HGOOD HKI HNO;go_wp2_with fail
     refine HC.o.mono ?_;rintro e W8 ⟨rfl,k',r',h1,h2,h3,h4⟩;have HVV:=hq (HB2.o k' r' _ h1 (HF7.o.trans h2) h3 h4);clear h1 h2 h3 h4 HC HB2;go_wp2_with fail
     first|exact HVV.o|(go_ret;exact HVV.o)
    |inr p=>
     obtain⟨l1,ns1⟩:=p;rw[hvm]at HC;have hext:=zg0 _ _ _ _ _ _ _ _ hvm;have HKJ:Hq (kidM (za4 s.size (za3 s) d) ob s.size (za3 s) had (L.drop k4) r4.ns= .inr (had',l1,ns1)):=hq (by rw[HKI.o,hvm]);clear HKI hvm;go_upto_region 14 with fail
     go_cut [16] from 42 to 134 (fun ok wx=>ok= .bool true/\ ∃k6 r6,Hq (Pd w0 g s L vL k6 r6 wx)/\Hq (Fr (r4.own g) (r6.own g) wc wx)/\Hq (L.drop k6=l1)/\Hq (r6.ns=ns1))
     case first=>
      go_wp2_with fail
      refine HC.o.mono ?_;rintro e W8 ⟨rfl,k6,r6,h1,h2,h3,h4⟩;have HZ:=hq (And.intro h1 (And.intro h2 (And.intro h3 h4)));clear h1 h2 h3 h4 HC;go_wp2_with fail
      go_meet
      exact⟨rfl,k6,r6,hq HZ.o.1,hq HZ.o.2.1,hq HZ.o.2.2.1,hq HZ.o.2.2.2⟩
     case rest=>
      obtain⟨rfl,k6,r6,HR8,HF8,HD8,HN8⟩:=hcut;have HH8:=hq (zq0 HH7.o HF8.o HNO.o);have HF9:=hq (HF7.o.trans HF8.o);clear HC c3 cf x0 x1 HF7 HH7 HR7 HNO HF8
      apply_assumption
      apply wp_seq_k;intro KX2 hKX2
      go_cut [] from 42 to 134 (fun wx=>wc=wx)
      case first=>
       go_wp2_with fail
       go_meet
       exact rfl
      obtain rfl:=hcut
      apply_assumption
      apply wp_seq_k;intro KX3 hKX3
      go_cut [] from 42 to 134 (fun wx=>Hq (zb0 L k6=6\/zb0 L k6=ze7 ob)/\Hq (Below wc.heap.size wc wx))
      case first=>
       have HC6:=hq (fun W' hr=>HCK.o k6 r6 W' hr);by_cases h6:zb0 L k6=6
       ·have e6:((zb0 L k6:Int) !=6)=false:=by rw[bne_eq_false_iff_eq];omega
        have H6:=hq h6;clear h6 HBAD HGOOD HR5 HCK;generalize hkk6:zb0 L k6=kk6 at *;clear hkk6;go_wp2_with fail
        refine(HC6.o _ HR8.o).mono ?_;rintro e W9 ⟨rfl,hb⟩;have HB:=hq hb;clear hb HC6;go_wp2_with fail
        go_meet
        exact⟨hq (.inl H6.o),HB⟩
       ·have e6:((zb0 L k6:Int) !=6)=true:=by rw[bne_iff_ne];omega
        by_cases h7:zb0 L k6=ze7 ob
        ·have e7:((zb0 L k6:Int) !=(ze7 ob:Int))=false:=by rw[bne_eq_false_iff_eq];omega
         have H7:=hq h7;clear h6 h7 HBAD HGOOD HR5 HCK;generalize hkk6:zb0 L k6=kk6 at *;clear hkk6;generalize ze7 ob=en at *;go_wp2_with fail
         refine(HC6.o _ HR8.o).mono ?_;rintro e W9 ⟨rfl,hb⟩;have HB:=hq hb;have HR9:=hq (HR8.o.grow hb);clear hb;go_wp2_with fail
         refine(HC6.o _ HR9.o).mono ?_;rintro e W10 ⟨rfl,hb⟩;have HB2:=hq (za HB.o hb);clear hb HB HC6 HR9;go_wp2_with fail
         go_meet
         exact⟨hq (.inr H7.o),HB2⟩
        ·have e7:((zb0 L k6:Int) !=(ze7 ob:Int))=true:=by rw[bne_iff_ne];omega
         have hR:R= .inl (zc4 s L k6,2):=HR5.o.trans (zA5 HKJ.o (by
          rw[←HD8.o];rcases zD2 s L k6 6 (ze7 ob) (by omega) (by omega) with ⟨h,_⟩|⟨_,h⟩
          ·rcases h with h|h
           ·exact absurd h h6
           ·exact absurd h h7
          ·exact h))
         have HB2:=hq (fun r' W'=>HBAD.o (zc4 s L k6) 2 k6 r' W' hR);have HCW:=hq (fun W' hr=>zn7 (W:=W') (r:=r6) (k:=k6) (L:=L) (vL:=vL) (s:=s) (g:=g) (w0:=w0) hr 2);clear h6 h7 hR HBAD HGOOD HR5 HCK;generalize zc4 s L k6=hh at *;generalize hkk6:zb0 L k6=kk6 at *;clear hkk6;generalize ze7 ob=en at *;go_wp2_with fail
         refine(HC6.o _ HR8.o).mono ?_;rintro e W9 ⟨rfl,hb⟩;have HR9:=hq (HR8.o.grow hb);have HF10:=hq (HF9.o.trans (Fr.of_below _ hb));clear hb;go_wp2_with fail
         refine(HC6.o _ HR9.o).mono ?_;rintro e W10 ⟨rfl,hb⟩;have HR10:=hq (HR9.o.grow hb);have HF11:=hq (HF10.o.trans (Fr.of_below _ hb));clear hb HC6 HR9 HF10;go_wp2_with fail
         refine(HCW.o _ HR10.o).mono ?_;rintro e W11 ⟨rfl,hr,hf⟩;have HVV:=hq (HB2.o _ _ hr (HF11.o.trans hf) rfl rfl);clear hr hf HCW HB2 HR10 HF11;go_wp2_with fail
         first|exact HVV.o|(go_ret;exact HVV.o)
      case rest=>
       obtain⟨HEN,hb⟩:=hcut;have HR9:=hq (HR8.o.grow hb.o);have HF10:=hq (HF9.o.trans (Fr.of_below _ hb.o));have HH9:=hq (zq0 HH8.o (Fr.of_below (fun _=>False) hb.o) (fun _ _ h=>h));clear hb HR8 HF9 HH8;have hln:r4.nv.length<r6.nv.length:=by
        have h1:=hext.ln;rwa [←HN8.o,RS.ns_len,RS.ns_len]at h1
       have hn6:n<r6.nv.length:=by omega
       have hnx:r6.nv[n].n=r4.nv[n].n:=by
        have h1:=hext.at_ n (by rw[RS.ns_len];exact hn4);rw[←HN8.o,RS.ns_at r6 hn6,RS.ns_at r4 hn4]at h1;exact Option.some.inj h1
       have hkl6:r6.nv[n].n.kids.length<r6.nv.length/\r6.nv[n].n.pcs.length<r6.nv.length:=by
        rw[hnx];have:=HKL4.o;omega
       have HKL6:=hq hkl6;clear hnx hkl6
       apply_assumption
       apply wp_seq_k;intro KX4 hKX4
       go_cut [] from 42 to 134 (fun wx=> ∃r9:RS,Hq (Pd w0 g s L vL k6 r9 wx)/\Hq (Fr (r6.own g) (r9.own g) wc wx)/\Hq (∃v',r9=r6.upd n (kidV r6.nv[n] r4.nv.length v')))
       case first=>
        obtain⟨gN,cN,hvN,hcN,hmN,hfN,hnode⟩:=HR9.o.node hn6;have c3:=HR9.o.blk.at_ 3;have m5:=hnode 5 (by omega);simp only[ze,List.getElem?_cons_succ,List.getElem?_cons_zero]at m5;obtain⟨kA,kC,hks⟩:=ze6 (HR9.o.kr n hn6);rw[hks]at m5;have c3':wc.cell? ⟨g,3,none⟩=some (.slice (some ⟨gN,0,none⟩) r6.nv.length cN):=by rw[←hvN];exact c3
        have HKS:=hq hks;have HVN:=hq hvN;have hba:=za0 wc (.cells #[.int .i64 (r4.nv.length:Int)] 3);have m5z:=(hba.cell (zb2 m5)).trans m5;have c3z:=(hba.cell (zb2 c3')).trans c3';have HRA:=hq (HR9.o.grow hba.drew);have HBA:=hq hba.drew;have HKR:=hq (HRA.o.kr n hn6);rw[HKS.o]at HKR;have hwx:w0.heap.size<=wc.heap.size:=HR9.o.bl.size;have hne1:gN≠g:=fun e=>HR9.o.ng (by rw[hvN,e];rfl)
        have HNR:Hq ((Value.slice kA r6.nv[n].n.kids.length kC).ownBlock≠some g):=hq (fun e=>HR9.o.kg hn6 (by rw[hks];exact e));obtain⟨i1,hi1,hy0,hy1,hy2⟩:=info_parts infoI;have hnz:(n:Int)<(r6.nv.length:Int):=by omega
        have hkl6:=HKL6.o.1;have hn49:=HR9.o.n4;clear c3 hks hvN hnode hba hext HBAD HGOOD HR5;go_wp2_with fail
        rw[show (Op.load 146 (.tmp 92))=opQ (Op.load 146 (.tmp 92)) from rfl];have hld:opQ (Op.load 146 (.tmp 92))=Op.load 146 (.tmp 92):=rfl
        go_region_held3 (fun W=>W.cell? ⟨g,3,none⟩=some (.slice (some ⟨gN,0,none⟩) r6.nv.length cN))
         (first|exact c3'|exact c3z|exact hT6|exact one_put hT6 hne1 _)
         ((refine zw5 rfl (.tmp 93) (.tmp 95) 146 rfl w0.heap.size 3 i1 (.int .i64 0) 1 8 Tryz.underlying146 hi1 hy0 hy1 hy2 rfl (by decide) (.slice kA r6.nv[n].n.kids.length kC) r6.nv[n].n.kids.length (kidC r6.nv[n].n.kids) (by simp[Act.eval]) HKR.o ⟨wc.heap.size,0,none⟩ 1 1 [.int .i64 (r4.nv.length:Int)] (by simp[Act.eval]) rfl (ze0 wc [.int .i64 (r4.nv.length:Int)] _) (by simp[Value.oneCell']) (by unfold maxLen;omega) (by omega) (by show w0.heap.size<=(wc.alloc _).heap.size;rw[World.size_alloc];omega) ?_;intro v' W6 hown6 hgrow6 hat6;obtain⟨g6,c6,rfl⟩:=zj0 hown6;have HG6:=hq (show World.grownBy _ W6 r6.nv[n].k.ownBlock by rw[HKS.o];exact hgrow6);have m5':=(HRA.o.mid hn6 HVN.o HG6.o (.inl rfl)).1 5 (by omega);have hff':=(HRA.o.mid hn6 HVN.o HG6.o (.inl rfl)).2;simp only[ze,List.getElem?_cons_succ,List.getElem?_cons_zero]at m5';have hT6:=zg4 (by exact c3z) hgrow6 HNR.o))
        all_goals
         have hkid:=HRA.o.kid hn6 HVN.o hkl6 hown6 HG6.o (by rw[HKS.o];exact hat6);have HZ:=hq (And.intro hkid.1 ((Fr.of_below (r6.own g) HBA.o).trans hkid.2));clear hkid;go_wp2_with fail
         go_meet
         exact⟨_,hq HZ.o.1,hq HZ.o.2,hq ⟨_,rfl⟩⟩
       case rest=>
        obtain⟨r9,HR10,HF11,HRU⟩:=hcut;have hl9:r9.nv.length=r6.nv.length:=by
         obtain⟨v0,hru⟩:=HRU.o;rw[hru];exact zh6 _ _ _
        have hn9:n<r9.nv.length:=by omega
        have hp9:r9.nv[n].n.pcs.length<r9.nv.length:=by
         obtain⟨v0,hru⟩:=HRU.o;have hk6:=HKL6.o.2;clear HR10 HF11 HRU hl9;subst hru;rw[zN0 r6 hn6 _ hn9,zh6];exact hk6
        have HNR9:=hq (zq0 (zq0 HH9.o HF11.o (HR9.o.notown HH9.o)) (Fr.refl (fun _=>False) _) (fun _ _ h=>h))
        apply_assumption
        apply wp_seq_k;intro KX5 hKX5
        go_cut [] from 42 to 134 (fun wx=> ∃r10:RS,Hq (Pd w0 g s L vL k6 r10 wx)/\Hq (Fr (r9.own g) (r10.own g) wc wx)/\Hq (∃v',r10=r9.upd n (pcV r9.nv[n] (fr,zc4 s L k6) v')))
        case first=>
         obtain⟨gN,cN,hvN,hcN,hmN,hfN,hnode⟩:=HR10.o.node hn9;have c3:=HR10.o.blk.at_ 3;have m6:=hnode 6 (by omega);simp only[ze,List.getElem?_cons_succ,List.getElem?_cons_zero]at m6;obtain⟨kA,kC,hks⟩:=ze6 (HR10.o.pr n hn9);rw[hks]at m6;have c3':wc.cell? ⟨g,3,none⟩=some (.slice (some ⟨gN,0,none⟩) r9.nv.length cN):=by rw[←hvN];exact c3
         have HKS:=hq hks;have HVN:=hq hvN;have hwx:w0.heap.size<=wc.heap.size:=HR10.o.bl.size;have hne1:gN≠g:=fun e=>HR10.o.ng (by rw[hvN,e];rfl)
         have HNR:Hq ((Value.slice kA r9.nv[n].n.pcs.length kC).ownBlock≠some g):=hq (fun e=>HR10.o.pg hn9 (by rw[hks];exact e));obtain⟨i1,hi1,hy0,hy1,hy2⟩:=info_parts infoSp;have hnz:(n:Int)<(r9.nv.length:Int):=by omega
         have hn49:=HR10.o.n4;have HCH:=hq (fun W' hr=>zG7 (W:=W') (r:=r9) (k:=k6) (L:=L) (vL:=vL) (s:=s) (g:=g) (w0:=w0) hr);clear c3 hks hvN hnode hext HBAD HGOOD HR5;generalize zc4 s L k6=hh at *;go_wp2_with fail
         rw[show (Op.load 147 (.tmp 110))=opQ (Op.load 147 (.tmp 110)) from rfl];have hld:opQ (Op.load 147 (.tmp 110))=Op.load 147 (.tmp 110):=rfl
         go_region_held3 (fun W=>W.cell? ⟨g,3,none⟩=some (.slice (some ⟨gN,0,none⟩) r9.nv.length cN))
          (first|exact c3'|exact c3w|exact c3z|exact hT6|exact one_put hT6 hne1 _)
          (first
           |(refine zw5 rfl (.tmp 111) (.tmp 116) 147 rfl w0.heap.size 44 i1 (.agg #[.int .i64 0,.int .i64 0]) 2 16 Tryz.underlying147 hi1 hy0 hy1 hy2 rfl (by decide) (.slice kA r9.nv[n].n.pcs.length kC) r9.nv[n].n.pcs.length (pcC r9.nv[n].n.pcs) (by simp[Act.eval]) HKR.o ⟨w9.heap.size,0,none⟩ 1 1 [.int .i64 (fr:Int),.int .i64 (hh:Int)] (by simp[Act.eval]) rfl (ze0 w9 [.int .i64 (fr:Int),.int .i64 (hh:Int)] _) (by simp[Value.oneCell']) (by unfold maxLen;omega) (by omega) (by show w0.heap.size<=(w9.alloc _).heap.size;rw[World.size_alloc];omega) ?_;intro v' W6 hown6 hgrow6 hat6;obtain⟨g6,c6,rfl⟩:=zj0 hown6;have HG6:=hq (show World.grownBy _ W6 r9.nv[n].p.ownBlock by rw[HKS.o];exact hgrow6);have m6':=(HRA.o.mid hn9 HVN.o HG6.o (.inr rfl)).1 6 (by omega);have hff':=(HRA.o.mid hn9 HVN.o HG6.o (.inr rfl)).2;simp only[ze,List.getElem?_cons_succ,List.getElem?_cons_zero]at m6';have hT6:=zg4 (by exact c3z) hgrow6 HNR.o)
           |(go_at_call 163;refine(HCH.o _ (HR10.o.grow (Below.refl _ _).drew)).mono ?_;rintro e' w9 ⟨rfl,hb9⟩;have hbw:Below wc.heap.size wc w9:=za (Below.refl _ _).drew hb9;have c3w:=(hbw.cell (zb2 c3')).trans c3';have m6w:=(hbw.cell (zb2 m6)).trans m6;have hba:=za0 w9 (.cells #[.int .i64 (fr:Int),.int .i64 (hh:Int)] 44);have c3z:=(hba.cell (zb2 c3w)).trans c3w;have m6z:=(hba.cell (zb2 m6w)).trans m6w;have HRA:=hq (HR10.o.grow (za hbw hba));have HBA:=hq (za hbw hba);have HKR:=hq (HRA.o.pr n hn9);rw[HKS.o]at HKR;have hws:=hbw.size))
         all_goals
          have hpc:=HRA.o.piece hn9 HVN.o hp9 hown6 HG6.o (by rw[HKS.o];exact hat6);have HZ:=hq (And.intro hpc.1 ((Fr.of_below (r9.own g) HBA.o).trans hpc.2));clear hpc;go_wp2_with fail
          go_meet
          exact⟨_,hq HZ.o.1,hq HZ.o.2,hq ⟨_,rfl⟩⟩
        case rest=>
         obtain⟨r10,HR11,HF12,HRV⟩:=hcut;have HNS:Hq (r10.ns=addN r6.ns n r4.nv.length (fr,zc4 s L k6)/\r10.nv.length=r6.nv.length):=hq (by
          obtain⟨v0,hru⟩:=HRU.o;obtain⟨v1,hrv⟩:=HRV.o;clear HR10 HF11 HRU HR11 HF12 HRV HNR9 hp9;subst hru;subst hrv;exact⟨add_ns2 r6 hn6 _ _ _ _ _,by rw[zh6,zh6]⟩)
         have hx4:=zy6 (fun l key ns l' ns' h=>zg0 _ _ _ _ _ _ _ _ h) HKJ.o;have hk64:L.length-k6<L.length-k4:=by
          have:=hx4.ts;rwa [←HD8.o,List.length_drop,List.length_drop]at this
         have hk6:k6<L.length:=by
          rcases Nat.lt_or_ge k6 L.length with h|h
          ·exact h
          ·have e:=HEN.o;unfold zb0 at e;rw[List.getElem?_eq_none h]at e;simp at e;omega
         have HHH:Hq (zc4 s L k6=L[k6].2.1):=hq (by unfold zc4;rw[List.getElem?_eq_getElem hk6];rfl);have HKT:Hq (zb0 L k6=L[k6].1):=hq (by unfold zb0;rw[List.getElem?_eq_getElem hk6];rfl);have HTM:Hq (ze4 s.size 6 (ze7 ob) l1= .inr (L[k6],L.drop (k6+1))):=hq (by
          rw[←HD8.o];rcases zD2 s L k6 6 (ze7 ob) (by omega) (by omega) with ⟨_,h0,h⟩|⟨h,_⟩
          ·exact h
          ·rcases HEN.o with e|e
           ·exact absurd e h.1
           ·exact absurd e h.2)
         have HFA:=hq ((HF10.o.trans HF11.o).trans HF12.o);have HHA:=hq (zq0 HNR9.o HF12.o (HR10.o.notown HNR9.o));have HCK6:=hq (fun W' hr=>HCK.o k6 r10 W' hr);have HCH6:=hq (fun W' hr=>zG7 (W:=W') (r:=r10) (k:=k6) (L:=L) (vL:=vL) (s:=s) (g:=g) (w0:=w0) hr);have hsz:zc4 s L k6<=s.size:=by
          have:=HR11.o.tl L[k6] (List.getElem_mem hk6);rw[HHH.o];omega
         clear HCK HBAD HR9 HF10 HH9 HR10 HF11 HRU HRV HNR9 HF12 HKL6 hp9 hext hx4
         apply_assumption
         go_wp2_with fail
         refine(HCK6.o _ HR11.o).mono ?_;rintro e W9 ⟨rfl,hb⟩;have HR12:=hq (HR11.o.grow hb);have HFB:=hq (HFA.o.trans (Fr.of_below _ hb));have HHB:=hq (zq0 HHA.o (Fr.of_below (fun _=>False) hb) (fun _ _ h=>h));clear hb HCK6 HR11 HFA HHA;go_wp2_with fail
         refine(HCH6.o _ HR12.o).mono ?_;rintro e W10 ⟨rfl,hb⟩;have HR13:=hq (HR12.o.grow hb);have HFC:=hq (HFB.o.trans (Fr.of_below _ hb));have HHC:=hq (zq0 HHB.o (Fr.of_below (fun _=>False) hb) (fun _ _ h=>h));clear hb HCH6 HR12 HFB HHB;obtain⟨_,_,_,_,_,_,_,_,c2,_,_,_,cf⟩:=HR13.o.cells;have HST:=hq (HR13.o.step (k1:=k6+1) (by omega));have HFS:=hq (HFC.o.trans (HR13.o.stepF (.int .i64 ((k6+1:Nat):Int))));have HHS:=hq (zq0 HHC.o (HR13.o.stepF (.int .i64 ((k6+1:Nat):Int))) (HR13.o.notown HHC.o));have e5:((k6+1:Nat):Int)=(k6:Int)+1:=by omega
         rw[e5]at HST HFS HHS;have hk6z:(k6:Int)<(L.length:Int):=by omega
         clear e5 HR13 HFC HHC;by_cases hlast:zb0 L k6=ze7 ob
         ·have e6:((zb0 L k6:Int)==(ze7 ob:Int))=true:=by rw[beq_iff_eq];omega
          have hR:=HR5.o.trans (zH1 HKJ.o HTM.o (by rw[←HKT.o];exact hlast));have HVV:Hq (PP (.returned (.bool true)) (W10.setCell ⟨g,2,none⟩ (.int .i64 ((k6:Int)+1)))):=hq (HGOOD.o _ _ (k6+1) r10 L[k6] _ hR HST.o HFS.o rfl (by have:=HNS.o.2;omega) (by omega) (by rw[Nat.add_sub_cancel];exact List.getElem?_eq_getElem hk6) (by rw[HNS.o.1,HHH.o,HN8.o,RS.ns_len]));clear hR HGOOD HR5 HKJ HTM HKT HHH HNS hlast HEN HST HFS HHS;generalize zb0 L k6=kk6 at *;generalize zc4 s L k6=hh at *;generalize ze7 ob=en at *;go_wp2_with fail
          first|exact HVV.o|(go_ret;exact HVV.o)
         ·have e6:((zb0 L k6:Int)==(ze7 ob:Int))=false:=by rw[beq_eq_false_iff_ne];omega
          have h6:L[k6].1=6:=by
           rcases HEN.o with e|e
           ·rw[←HKT.o];exact e
           ·exact absurd e hlast
          have hbe:L[k6].2.2=zc4 s L k6+1:=by rw[HHH.o];exact hcm _ (List.getElem_mem hk6) h6
          have HRN:Hq (R=zk6 (za4 s.size (za3 s) d) ob s.size (za3 s) n f had' (zc4 s L k6+1) (L.drop (k6+1)) r10.ns):=hq (by
           rw[HR5.o.trans (zA6 HKJ.o HTM.o (by rw[←HKT.o];exact hlast)),hbe,HNS.o.1,HHH.o,HN8.o,RS.ns_len])
          have hl10:=HNS.o.2;clear HGOOD HR5 HKJ HTM HKT HHH HNS hlast HEN h6 hbe;generalize zb0 L k6=kk6 at *;generalize zc4 s L k6=hh at *;go_wp2_with fail
          go_roundg f
          case measure=>omega
          case rel=>exact⟨k6+1,r10,had',hh+1,zb5 (by omega),by omega,by omega,by omega,HST,HHS,HFS,HRN⟩
theorem zL2 {w0:World} {g:Nat} {s:ByteArray} {L:List Tok} {vL:Value} (hs:s.size<=65536)(hcm: ∀t∈L,t.1=6->t.2.2=t.2.1+1): ∀(d Lv:Nat),Lv+d=33->PValOk w0 g s L vL d Lv
 |0,Lv,hL=>zG5 hL (fun d' h=>by omega)
 |d+1,Lv,hL=>zG5 hL (fun d' h=>by
  obtain rfl:d=d':=by omega
  exact pkids_step (by omega) hs hcm (zL2 hs hcm d (Lv+1) (by omega)))
theorem Pd.doc {w0 W:World} {g:Nat} {s:ByteArray} {L:List Tok} {vL:Value} {k:Nat} {r:RS} (h:Pd w0 g s L vL k r W) {B:Nat} (hB:B<=w0.heap.size):DocIn B r.nv r.vN W:=
 ⟨zh2 h.nd hB,fun i hi=>zh2 (h.kr i hi) hB,fun i hi=>zh2 (h.pr i hi) hB,h.ak,h.ap,h.n4,h.kl⟩
structure PsI(w3:World)(s:ByteArray)(l:List Tok)(vL:Value)(W:World):Prop where
 blk:Whole W w3.heap.size 143 #[.string s,vL,.int .i64 0,.slice none 0 0,.int .i64 0,.int .i64 0]
 tk:W.ownsRow w3.heap.size 131 3 vL l.length (zd7 l)
 bl:Below w3.heap.size w3 W
def rs0:RS:=⟨[],none,0,[],.slice none 0 0,0,0⟩
theorem PsI.done {w3 W:World} {s:ByteArray} {l:List Tok} {vL:Value} (h:PsI w3 s l vL W)(hl: ∀t∈l,t.2.1<=t.2.2/\t.2.2<=s.size):Pd w3 w3.heap.size s l vL 0 rs0 W:=
 ⟨h.blk,h.tk,hl,Nat.zero_le _,World.ownsRow_nil _ _ _ _,fun _ hi=>absurd hi (Nat.not_lt_zero _),fun _ hi=>absurd hi (Nat.not_lt_zero _),fun _ _ hi=>absurd hi (Nat.not_lt_zero _),fun _ _ hi=>absurd hi (Nat.not_lt_zero _),h.bl,Nat.le_refl _,Nat.zero_le _,fun _ hi=>absurd hi (Nat.not_lt_zero _)⟩
theorem PsI.begin(w3:World)(s:ByteArray):PsI w3 s [] (.slice none 0 0) (w3.alloc (.cells #[.string s,.slice none 0 0,.int .i64 0,.slice none 0 0,.int .i64 0,.int .i64 0] 143)):=
 ⟨Whole.made w3 _ _,World.ownsRow_nil _ _ _ _,za0 w3 _⟩
theorem PsI.drew {w3 W:World} {s:ByteArray} {l:List Tok} {vL:Value} (h:PsI w3 s l vL W)(n:Nat):PsI w3 s l vL (W.drewN n):=
 ⟨h.blk.grow (below_drewN (Below.refl _ _) n),zq0 h.tk (Fr.of_below (fun _=>False) (below_drewN (Below.refl _ _) n)) (fun _ _ h=>h),below_drewN h.bl n⟩
theorem PsI.next {w3 W W':World} {s:ByteArray} {l:List Tok} {vL v':Value} {t:Tok} (h:PsI w3 s l vL W)(hown:W'.ownsRow w3.heap.size 131 3 v' (l.length+1) (zd7 (l++[t])))(hg:W.grownBy W' vL.ownBlock):PsI w3 s (l++[t]) v' (W'.setCell ⟨w3.heap.size,1,none⟩ v'):=by
 have hvg:vL.ownBlock≠some w3.heap.size:=zc1 h.tk h.blk (by decide);have hw:Whole W' w3.heap.size 143 #[.string s,vL,.int .i64 0,.slice none 0 0,.int .i64 0,.int .i64 0]:=ze8 h.blk hg fun b e hb=>hvg (by rw[e,hb])
 have hv2:v'.ownBlock≠some w3.heap.size:=zc1 hown hw (by decide);have hg2:=zi6 W' ⟨w3.heap.size,1,none⟩ v';refine⟨hw.put 1 v',?_,(h.bl.grown hg h.bl.size fun k e=>(h.tk.lt k e).1).setCell (Nat.le_refl _) v'⟩;rw[List.length_append,List.length_singleton];exact za5 hown hg2 fun b e=>by cases e;exact hv2
theorem nbl_take {l:List Tok} {i:Nat} (hi:i<l.length):nbl (l.take (i+1))=if l[i].1=1 then nbl (l.take i) else nbl (l.take i)++[l[i]]:=by
 rw[List.take_succ_eq_append_getElem hi];unfold nbl;rw[List.filter_append];by_cases h:l[i].1=1
 ·rw[if_pos h];simp[h]
 ·rw[if_neg h];simp[h]
theorem three_put {W:World} {g gT o1 o2 o3 q:Nat} {v1 v2 v3:Value} (h:W.cell? ⟨gT,o1,none⟩=some v1/\W.cell? ⟨gT,o2,none⟩=some v2/\W.cell? ⟨gT,o3,none⟩=some v3)(hne:g≠gT)(u:Value):
 (W.setCell ⟨g,q,none⟩ u).cell? ⟨gT,o1,none⟩=some v1/\(W.setCell ⟨g,q,none⟩ u).cell? ⟨gT,o2,none⟩=some v2/\(W.setCell ⟨g,q,none⟩ u).cell? ⟨gT,o3,none⟩=some v3:=
 ⟨zi0 h.1 (fun e=>by injection e with e2;exact hne e2) u,zi0 h.2.1 (fun e=>by injection e with e2;exact hne e2) u,zi0 h.2.2 (fun e=>by injection e with e2;exact hne e2) u⟩
theorem three_below {B:Nat} {W W':World} {gT o1 o2 o3:Nat} {v1 v2 v3:Value} (h:W.cell? ⟨gT,o1,none⟩=some v1/\W.cell? ⟨gT,o2,none⟩=some v2/\W.cell? ⟨gT,o3,none⟩=some v3)(hb:Below B W W')(hB:gT<B):
 W'.cell? ⟨gT,o1,none⟩=some v1/\W'.cell? ⟨gT,o2,none⟩=some v2/\W'.cell? ⟨gT,o3,none⟩=some v3:=
 ⟨(hb.cell (p:=⟨gT,o1,none⟩) hB).trans h.1,(hb.cell (p:=⟨gT,o2,none⟩) hB).trans h.2.1,(hb.cell (p:=⟨gT,o3,none⟩) hB).trans h.2.2⟩
theorem three_grown {W W':World} {gT o1 o2 o3:Nat} {v1 v2 v3:Value} {row:Option Nat} (h:W.cell? ⟨gT,o1,none⟩=some v1/\W.cell? ⟨gT,o2,none⟩=some v2/\W.cell? ⟨gT,o3,none⟩=some v3)(hg:W.grownBy W' row)(hr:row≠some gT):
 W'.cell? ⟨gT,o1,none⟩=some v1/\W'.cell? ⟨gT,o2,none⟩=some v2/\W'.cell? ⟨gT,o3,none⟩=some v3:=⟨zg4 h.1 hg hr,zg4 h.2.1 hg hr,zg4 h.2.2 hg hr⟩
theorem rjparse_any(s:ByteArray)(W:World)(hs:s.size<=maxLen):Calls Tryz.prog 75 #[.string s] W (zf5 s W):=by
 have HTK:=hq (rtokens4_any s (W.alloc (.cells #[.string ⟨#[]⟩,.slice none 0 0] 78)) hs);unfold zR0 at HTK;have HB1:=hq (za0 W (.cells #[.string ⟨#[]⟩,.slice none 0 0] 78));have HW1:=hq (Whole.made W 78 #[.string ⟨#[]⟩,.slice none 0 0]);have HBAD:=hq (fun (W':World) (wh:Nat) (er:Int)=> @zM0 s W W' wh er);have HOK:=hq (fun (W':World) (ns:List JN) (nv:List NV) (vN:Value)=> @jparse_ok s W W' ns nv vN);have HMEM:=hq (fun x hx=>(@zr0 s x hx));have HSZ:=hq (@zN2 s);have HTL:=hq (@tokens_l s);have HLN:=hq (tokensM_len s).1;have HPM:Hq (zc2 s=if (zd0 s).2.2≠0 then .inl (zd0 s).2 else match za4 s.size (za3 s) 32 (nbl (zd0 s).1) (0,0) [] with
  | .inl e=> .inl e
  | .inr (l,ns)=>if l=[] then .inr ns else .inl (((l.head?).map fun t=>t.2.1).getD 0,2)):=hq rfl
 generalize zc2 s=PM at *;generalize zf5 s W=PP at *;generalize zd0 s=TM at *;obtain⟨toks,ta,te⟩:=TM;simp only at HTK HMEM HSZ HPM HTL HLN;by_cases hte:te=0
 ·subst hte;have HSZ2:=HSZ.o rfl;have HTL2:=hq (HTL.o rfl);clear HSZ HTL;rw[if_neg (by simp)]at HPM;go_enter Tryz.func75,Tryz.ntmps75
  go_wp2_with fail
  refine HTK.o.mono ?_;rintro e W3 ⟨v,rfl,hrow,hb3⟩;have HB3:=hq (za HB1.o hb3);have HD3:=hq (HW1.o.grow hb3);have HWL:W.heap.size<W3.heap.size:=HD3.o.lt;have HROW:Hq (∀i (hi:i<toks.length),∃gT c,v= .slice (some ⟨gT,0,none⟩) toks.length c/\gT<W3.heap.size/\W3.cell? ⟨gT,i*3,none⟩=some (.int .i64 (toks[i].1:Int))/\W3.cell? ⟨gT,i*3+1,none⟩=some (.int .i64 (toks[i].2.1:Int))/\W3.cell? ⟨gT,i*3+2,none⟩=some (.int .i64 (toks[i].2.2:Int))):=hq (fun i hi=>by
   obtain⟨gT,c,hv,_,_,_,_,_,hcell⟩:=toks_cell hrow (by omega);obtain⟨h1,h2,h3⟩:=hcell i toks[i] (List.getElem?_eq_getElem hi);exact⟨gT,c,hv,zb2 h1,h1,h2,h3⟩)
  obtain⟨va,vc,rfl⟩:=ze6 hrow;have hln:=HLN.o;have HPS:=hq (PsI.begin W3 s);clear hrow hb3 HTK HW1 HB1 HLN;go_wp2_with fail
  go_upto_region 5 with fail
  generalize W3.alloc (.cells #[.string s,.slice none 0 0,.int .i64 0,.slice none 0 0,.int .i64 0,.int .i64 0] 143)=W4 at *;go_wp2_with fail
  go_loopg [9] toks.length (fun gk u wr=> ∃i:Nat,i+gk<=toks.length/\toks.length<=i+gk/\u= .int .i64 (i:Int)/\ ∃vL,Hq (PsI W3 s (nbl (toks.take i)) vL wr))
  case atStart=>exact⟨0,by omega,by omega,rfl,_,HPS⟩
  case round=>
   obtain⟨i,hi1,hi2,rfl,vL,hps⟩:=hrel;clear HPS;by_cases hil:i<toks.length
   ·have hiz:(i:Int)<(toks.length:Int):=by omega
    obtain⟨gT,c,hvv,hgT,t0,t1,t2⟩:=HROW.o i hil;cases hvv;have t0r:=(hps.o.bl.cell (p:=⟨gT,i*3,none⟩) hgT).trans t0;have t1r:=(hps.o.bl.cell (p:=⟨gT,i*3+1,none⟩) hgT).trans t1;have t2r:=(hps.o.bl.cell (p:=⟨gT,i*3+2,none⟩) hgT).trans t2;have HNB:=hq (nbl_take hil);have HLE:Hq ((nbl (toks.take i)).length<=i):=hq (by
     have h1:=List.length_filter_le (fun t:Tok=>t.1 !=1) (toks.take i);rw[List.length_take]at h1;unfold nbl;omega)
    generalize toks[i]=t at *;obtain⟨kd,xa,xb⟩:=t;simp only at t0r t1r t2r HNB;clear t0 t1 t2 HOK HBAD HMEM HPM HTL2 HB3 HD3;by_cases hk:kd=1
    ·have hkz:((kd:Int) !=1)=false:=by rw[bne_eq_false_iff_eq];omega
     have HN2:Hq (nbl (toks.take (i+1))=nbl (toks.take i)):=hq (by rw[HNB.o,if_pos hk]);clear HROW HNB hk;go_wp2_with fail
     go_roundg (gk-1)
     case measure=>omega
     case rel=>exact⟨i+1,by omega,by omega,zb5 (by omega),vL,hq (HN2.o▸hps.o)⟩
    ·have hkz:((kd:Int) !=1)=true:=by rw[bne_iff_ne];omega
     have HN2:Hq (nbl (toks.take (i+1))=nbl (toks.take i)++[(kd,xa,xb)]):=hq (by rw[HNB.o,if_neg hk]);have hlen:=HLE.o;generalize nbl (toks.take i)=l at *;have hbd:=(za0 wr (.cells #[.int .i64 (kd:Int),.int .i64 (xa:Int),.int .i64 (xb:Int)] 131)).drew;have HNR:=hq (zq0 hps.o.tk (Fr.of_below (fun _=>False) hbd) (fun _ _ h=>h));have HBK:=hq (hps.o.blk.grow hbd);obtain⟨la,lc,hvl⟩:=ze6 hps.o.tk;have HVG:Hq (vL.ownBlock≠some W3.heap.size):=hq (zc1 hps.o.tk hps.o.blk (by decide));have c1:wr.cell? ⟨W3.heap.size,1,none⟩=some vL:=hps.o.blk.at_ 1;have cf:=hps.o.blk.free;have c1a:((wr.alloc (.cells #[.int .i64 (kd:Int),.int .i64 (xa:Int),.int .i64 (xb:Int)] 131)).drew).cell? ⟨W3.heap.size,1,none⟩=some vL:=HBK.o.at_ 1;have hcb:W3.heap.size<wr.heap.size:=hps.o.blk.lt;have HPD:=hq ((PsI.mk HBK.o HNR.o (hps.o.bl.trans (hbd.mono (Nat.le_of_lt hcb)))):PsI W3 s l vL _);rw[hvl]at HNR HVG c1 c1a HPD;have HGT:Hq (W3.heap.size≠gT):=hq (by omega);have HT3:=hq (And.intro t0r (And.intro t1r t2r));have HT4:=hq (three_below HT3.o hbd (by omega));obtain⟨i1,hi1',hy0,hy1,hy2⟩:=info_parts infoTok;clear HNB hk hbd hps HROW HLE;go_upto_region 9 with fail
     rw[show (Op.load 123 (.tmp 40))=opQ (Op.load 123 (.tmp 40)) from rfl];have hld:opQ (Op.load 123 (.tmp 40))=Op.load 123 (.tmp 40):=rfl
     go_region_held3 (fun W=>W.cell? ⟨gT,i*3,none⟩=some (.int .i64 (kd:Int))/\W.cell? ⟨gT,i*3+1,none⟩=some (.int .i64 (xa:Int))/\W.cell? ⟨gT,i*3+2,none⟩=some (.int .i64 (xb:Int)))
      (first|exact ⟨t0r,t1r,t2r⟩|exact HT4.o|exact hT6|exact three_put hT6 HGT.o _)
      ((refine zw5 rfl (.tmp 41) (.tmp 46) 123 rfl W3.heap.size 131 i1 (.agg #[.int .i64 0,.int .i64 0,.int .i64 0]) 3 24 Tryz.underlying123 hi1' hy0 hy1 hy2 rfl (by decide) (.slice la l.length lc) l.length (zd7 l) (by simp[Act.eval]) HNR.o ⟨wr.heap.size,0,none⟩ 1 1 [.int .i64 (kd:Int),.int .i64 (xa:Int),.int .i64 (xb:Int)] (by simp[Act.eval]) rfl (ze0 wr [.int .i64 (kd:Int),.int .i64 (xa:Int),.int .i64 (xb:Int)] _) (by simp[Value.oneCell']) (by unfold maxLen;omega) (by omega) (by show W3.heap.size<=(wr.alloc _).heap.size;rw[World.size_alloc];omega) ?_;intro v' W6 hown6 hgrow6 hat6;obtain⟨g6,c6,rfl⟩:=zj0 hown6;have HWK:=hq (ze8 HBK.o hgrow6 (fun b e hb=>HVG.o (by rw[e,hb])));have f2:=HWK.o.at_ 1;have ff:=HWK.o.free;have hT6:=three_grown HT4.o hgrow6 (fun e=>by have:=(HNR.o.lt gT e).1;omega)))
     all_goals
      have HNX:=hq (HPD.o.next (t:=(kd,xa,xb)) (by rw[zr1];exact hown6) hgrow6);clear hown6 hgrow6 hat6 HWK f2 ff hT6 HPD HNR HBK HVG HGT HT3 HT4 t0r t1r t2r c1 c1a cf;go_wp2_with fail
      go_roundg (gk-1)
      case measure=>omega
      case rel=>exact⟨i+1,by omega,by omega,zb5 (by omega),_,hq (HN2.o▸HNX.o)⟩
   ·have hiz: ¬(i:Int)<(toks.length:Int):=by omega
    have HL:Hq (toks.take i=toks):=hq (List.take_of_length_le (by omega));have HLL:Hq (∀t∈nbl toks,t.2.1<=t.2.2/\t.2.2<=s.size):=hq (fun t ht=>by
     have hm:t∈toks:=(List.mem_filter.1 ht).1;exact⟨Nat.le_of_lt (HMEM.o t hm).1,(HMEM.o t hm).2.1⟩)
    have HPD:=hq ((HL.o▸hps.o).done HLL.o);have HC:=hq (zL2 HSZ2 (fun t ht h6=>HTL2.o.sg t ht (by omega) (by omega)) 32 1 rfl 0 rs0 wr 0 0 HPD.o);unfold zl5 at HC;rw[List.drop_zero]at HC;have hns:rs0.ns=[]:=rfl;rw[hns]at HC;clear hps HL HLL HMEM HTL2 HROW hns HPD;cases hv:za4 s.size (za3 s) 32 (nbl toks) (0,0) [] with
    |inl e=>
     obtain⟨wh,er⟩:=e;rw[hv]at HC HPM;simp only at HC HPM;unfold PBad at HC;have HBD:=hq (fun W'=>HBAD.o W' wh er HPM.o);clear hv HBAD HOK HPM;go_wp2_with fail
     refine HC.o.mono ?_;rintro e W4 ⟨rfl,k4,r4,hR4,hF4,hwh,her⟩;have k3:W4.cell? ⟨W3.heap.size,4,none⟩=some (.int .i64 r4.wh):=hR4.blk.at_ 4;have k5:W4.cell? ⟨W3.heap.size,5,none⟩=some (.int .i64 r4.er):=hR4.blk.at_ 5;rw[hwh]at k3;rw[her]at k5;have hD4: ∀n,Whole (W4.drewN n) W.heap.size 78 #[.string ⟨#[]⟩,.slice none 0 0]:=fun n=>HD3.o.kept (below_drewN hR4.bl n) HWL
     have HV:=hq (fun n=>HBD.o _ (zk4 (below_drewN (za HB3.o hR4.bl) n) (Nat.le_refl _) (.string ⟨#[]⟩) (.slice none 0 0)));have y0:W4.cell? ⟨W.heap.size,0,none⟩=some (.string ⟨#[]⟩):=(hD4 0).at_ 0;have y1:W4.cell? ⟨W.heap.size,1,none⟩=some (.slice none 0 0):=(hD4 0).at_ 1;have yf: ∀i,W4.frozen? ⟨W.heap.size,i,none⟩=false:=(hD4 0).free;have HZ:=hq (fun n=>And.intro ((ze3 (hD4 n) (.string ⟨#[]⟩) (.slice none 0 0)).at_ 0) ((ze3 (hD4 n) (.string ⟨#[]⟩) (.slice none 0 0)).at_ 1));unfold set2 at HV HZ;clear hR4 hF4 hwh her hD4 HC HBD;go_wp2_with fail
     go_big_quiet (fail)
     go_wp2_with fail
     go_region
     all_goals
      go_wp2_with fail
      refine bodyPost_ret (v:= .tuple #[.agg #[.string ⟨#[]⟩,.slice none 0 0],.int .i64 (wh:Int),.int .i64 er]) ?_ rfl (HV.o _);obtain⟨z0,z1⟩:=HZ.o (nq+1);simp[results,Tryz.results75,go_sem,z0,z1]
    |inr q=>
     obtain⟨l,ns⟩:=q;rw[hv]at HC HPM;simp only at HC HPM;clear hv;go_wp2_with fail
     refine HC.o.mono ?_;rintro e W4 ⟨rfl,k',r4,hR4,hF4,hl4,hns4⟩;obtain⟨na4,nc4,nx4,ny4,eL4,eN4,k0,k1,k2,k3,k4,k5,kf⟩:=hR4.cells;have htm4:=hR4.tm;have hn44:=hR4.n4;by_cases hk':k'<(nbl toks).length
     ·have hne:l≠ []:=fun e=>by
       have:=congrArg List.length hl4;rw[e,List.length_drop,List.length_nil]at this;omega
      have hlt:(k':Int)<((nbl toks).length:Int):=by omega
      have HPM2:Hq (PM= .inl (zc4 s (nbl toks) k',2)):=hq (by
       rw[HPM.o,if_neg hne,←hl4,List.drop_eq_getElem_cons hk'];unfold zc4;rw[List.getElem?_eq_getElem hk'];rfl)
      have HWR:=hq (fun n=>zn7 (hR4.grow (below_drewN (Below.refl _ W4) n)) 2);have HBD:=hq (fun W'=>HBAD.o W' (zc4 s (nbl toks) k') 2 HPM2.o);have HBW:=hq (fun n=>below_drewN (Below.refl W4.heap.size W4) n);clear hR4 hF4 hl4 hns4 hne HPM HPM2 HBAD HOK hk';generalize zc4 s (nbl toks) k'=wh at *;go_wp2_with fail
      go_big_quiet (fail)
      go_wp2_with fail
      refine(HWR.o _).mono ?_;rintro e W5 ⟨rfl,hR5,hF5⟩;have k3:W5.cell? ⟨W3.heap.size,4,none⟩=some (.int .i64 (wh:Int)):=hR5.blk.at_ 4;have k5:W5.cell? ⟨W3.heap.size,5,none⟩=some (.int .i64 2):=hR5.blk.at_ 5;have hD4:Whole W5 W.heap.size 78 #[.string ⟨#[]⟩,.slice none 0 0]:=HD3.o.kept hR5.bl HWL;have HD5:=hq (show Whole (set2 W5 W.heap.size (.string ⟨#[]⟩) (.slice none 0 0)).drew W.heap.size 78 #[.string ⟨#[]⟩,.slice none 0 0] from ze3 hD4 (.string ⟨#[]⟩) (.slice none 0 0));have HV:=hq (HBD.o _ (zk4 (za HB3.o hR5.bl) (Nat.le_refl _) (.string ⟨#[]⟩) (.slice none 0 0)).drew);have y0:=hD4.at_ 0;have y1:=hD4.at_ 1;have yf:=hD4.free;have HZ:=hq (And.intro (HD5.o.at_ 0) (HD5.o.at_ 1));unfold set2 at HV HZ;clear hR5 hF5 hD4 HBD HD5 HWR HBW k0 k1 k2 k4;go_wp2_with fail
      go_region
      all_goals
       go_wp2_with fail
       refine bodyPost_ret (v:= .tuple #[.agg #[.string ⟨#[]⟩,.slice none 0 0],.int .i64 (wh:Int),.int .i64 2]) ?_ rfl HV.o;obtain⟨z0,z1⟩:=HZ.o;simp[results,Tryz.results75,go_sem]at z0 z1 ⊢;simp[z0,z1]
     ·have he:l=[]:=by rw[←hl4];exact List.drop_eq_nil_of_le (by omega)
      have hlt: ¬(k':Int)<((nbl toks).length:Int):=by omega
      have hltb:decide ((k':Int)<((nbl toks).length:Int))=false:=decide_eq_false hlt;have HPM2:Hq (PM= .inr ns):=hq (by rw[HPM.o,if_pos he]);have hDn: ∀n,Whole (W4.drewN n) W.heap.size 78 #[.string ⟨#[]⟩,.slice none 0 0]:=fun n=>HD3.o.kept (below_drewN hR4.bl n) HWL
      have HDOC:Hq (∀n,DocIn W.heap.size r4.nv (.slice nx4 r4.nv.length ny4) (set2 (W4.drewN n) W.heap.size (.string s) (.slice nx4 r4.nv.length ny4))):=hq (fun n=>by
       have h1:=((hR4.grow (below_drewN (Below.refl _ W4) n)).doc (Nat.le_refl _)).far (b:=W.heap.size) HWL (.string s) (.slice nx4 r4.nv.length ny4);rw[eN4]at h1;have hlw:W.heap.size<=W3.heap.size:=Nat.le_of_lt HWL;exact⟨zh2 h1.nd hlw,fun i hi=>zh2 (h1.kr i hi) hlw,fun i hi=>zh2 (h1.pr i hi) hlw,h1.ak,h1.ap,h1.n4,h1.kl⟩)
      have HV:=hq (fun n=>HOK.o _ ns r4.nv _ HPM2.o (HDOC.o n) hns4 (zk4 (below_drewN (za HB3.o hR4.bl) n) (Nat.le_refl _) _ _));have HZ:=hq (fun n=>And.intro ((ze3 (hDn n) (.string s) (.slice nx4 r4.nv.length ny4)).at_ 0) ((ze3 (hDn n) (.string s) (.slice nx4 r4.nv.length ny4)).at_ 1));have y0:W4.cell? ⟨W.heap.size,0,none⟩=some (.string ⟨#[]⟩):=(hDn 0).at_ 0;have y1:W4.cell? ⟨W.heap.size,1,none⟩=some (.slice none 0 0):=(hDn 0).at_ 1;have yf: ∀i,W4.frozen? ⟨W.heap.size,i,none⟩=false:=(hDn 0).free;unfold set2 at HV HZ;clear hR4 hF4 hl4 hns4 he HPM HPM2 HBAD HOK hk' HDOC hDn eL4 eN4;generalize r4.nv.length=n6 at *;go_wp2_with fail
      go_big_quiet (fail)
      go_wp2_with fail
      refine bodyPost_ret (v:= .tuple #[.agg #[.string s,.slice nx4 n6 ny4],.int .i64 (s.size:Int),.int .i64 0]) ?_ rfl (HV.o _);obtain⟨z0,z1⟩:=HZ.o nq;simp[results,Tryz.results75,go_sem,z0,z1]
 ·have hteb:(te !=0)=true:=bne_iff_ne.2 hte;have HPM2:Hq (PM= .inl (ta,te)):=hq (by rw[HPM.o,if_pos hte]);have HBD:=hq (fun W'=>HBAD.o W' ta te HPM2.o);clear HOK HPM HMEM HSZ HBAD HTL HLN;go_enter Tryz.func75,Tryz.ntmps75
  go_wp2_with fail
  refine HTK.o.mono ?_;rintro e W3 ⟨v,rfl,hrow,hb3⟩;obtain⟨va,vc,rfl⟩:=ze6 hrow;have hD3:=HW1.o.grow hb3;have hD4:=ze3 hD3 (.string ⟨#[]⟩) (.slice none 0 0);have HV:=hq (HBD.o _ (zk4 (za HB1.o hb3) (Nat.le_refl _) (.string ⟨#[]⟩) (.slice none 0 0)));have y0:=hD3.at_ 0;have y1:=hD3.at_ 1;have yf:=hD3.free;have HZ:=hq (And.intro (hD4.at_ 0) (hD4.at_ 1));unfold set2 at HV HZ;clear hD3 hD4 hrow hb3 HTK HBD HW1 HB1 hte;go_wp2_with fail
  refine bodyPost_ret (v:= .tuple #[.agg #[.string ⟨#[]⟩,.slice none 0 0],.int .i64 (ta:Int),.int .i64 te]) ?_ rfl HV.o;obtain⟨z0,z1⟩:=HZ.o;simp[results,Tryz.results75,go_sem,z0,z1]
end Go.Proofs.YtkafjblfjdpdaaaGreatDoor
