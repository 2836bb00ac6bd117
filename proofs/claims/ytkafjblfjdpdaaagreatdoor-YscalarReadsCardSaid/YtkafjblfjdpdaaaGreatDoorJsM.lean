/-
  PLAIN MATHEMATICS of json.Parse: values, items, members out of tokens without blanks.
  PLAIN MATHEMATICS of json.Parse: what is wrong has a number.
-/
import Derived.Test.YtkafjblfjdpdaaaGreatDoorLexa
namespace Go.Proofs.YtkafjblfjdpdaaaGreatDoor
structure JN where
 kd:Nat
 a:Nat
 b:Nat
 ka:Nat
 kb:Nat
 kids:List Nat
 pcs:List (Nat×Nat)
abbrev JErr:=Nat×Int
abbrev JRes:=JErr⊕(List Tok×List JN)
def zb8(k:Nat):Nat:=if k=12 then 1 else if k=10\/k=11 then 2 else if k=9 then 3 else if k=8 then 4 else if k=4 then 5 else if k=2 then 6 else 0
def ze4(z one other:Nat)(l:List Tok):JErr⊕(Tok×List Tok):=match l with
 | []=> .inl (z,2)
 |t::r=>if t.1≠one/\t.1≠other then .inl (t.2.1,2) else .inr (t,r)
def closeN(ns:List JN)(k b:Nat):List JN:=ns.modify k fun n=> {n with b:=b}
def addN(ns:List JN)(k kid:Nat)(pc:Nat×Nat):List JN:=ns.modify k fun n=> {n with kids:=n.kids++[kid],pcs:=n.pcs++[pc]}
def ze7(ob:Bool):Nat:=if ob=true then 3 else 5
def kidM(v:List Tok->Nat×Nat->List JN->JRes)(ob:Bool)(z:Nat)(tx:Nat->Nat->Bs)(had:List Bs)(l:List Tok)(ns:List JN):JErr⊕(List Bs×List Tok×List JN):=
 if ob=true then match ze4 z 8 8 l with
  | .inl e=> .inl e
  | .inr (t,r)=>if tx t.2.1 t.2.2∈had then .inl (t.2.1,7) else match ze4 z 7 7 r with
    | .inl e=> .inl e
    | .inr (_,r2)=>match v r2 (t.2.1,t.2.2) ns with
      | .inl e=> .inl e
      | .inr (l',ns')=> .inr (had++[tx t.2.1 t.2.2],l',ns')
 else match v l (0,0) ns with
  | .inl e=> .inl e
  | .inr (l',ns')=> .inr (had,l',ns')
def zk6(v:List Tok->Nat×Nat->List JN->JRes)(ob:Bool)(z:Nat)(tx:Nat->Nat->Bs)(k:Nat):Nat->List Bs->Nat->List Tok->List JN->JRes
 |0,_,_,_,_=> .inl (0,2)
 |f+1,had,fr,l,ns=>match kidM v ob z tx had l ns with
  | .inl e=> .inl e
  | .inr (had',l1,ns1)=>match ze4 z 6 (ze7 ob) l1 with
    | .inl e=> .inl e
    | .inr (t,r)=>if t.1=ze7 ob then .inr (r,closeN (addN ns1 k ns.length (fr,t.2.1)) k t.2.2) else zk6 v ob z tx k f had' t.2.2 r (addN ns1 k ns.length (fr,t.2.1))
def toN(ns:List JN)(k:Nat):Nat:=((ns[k]?).map JN.b).getD 0
def zh8(v:List Tok->Nat×Nat->List JN->JRes)(ob:Bool)(z:Nat)(tx:Nat->Nat->Bs)(k:Nat)(l:List Tok)(ns:List JN):JRes:=
 if (l.head?).map (fun t=>t.1)=some (ze7 ob) then .inr (l.tail,closeN ns k ((l.head?.map fun t=>t.2.2).getD 0)) else zk6 v ob z tx k (l.length+1) [] (toN ns k) l ns
def ze9(t:Tok)(key:Nat×Nat):JN:=⟨zb8 t.1,t.2.1,t.2.2,key.1,key.2,[],[]⟩
def za4(z:Nat)(tx:Nat->Nat->Bs):Nat->List Tok->Nat×Nat->List JN->JRes
 |_,[],_,_=> .inl (z,2)
 |0,t::_,_,_=>if zb8 t.1=0 then .inl (t.2.1,2) else .inl (t.2.1,5)
 |d+1,t::r,key,ns=>if zb8 t.1=0 then .inl (t.2.1,2) else if ns.length=4096 then .inl (t.2.1,6) else
  if zb8 t.1=5 then zh8 (za4 z tx d) false z tx ns.length r (ns++[ze9 t key])
  else if zb8 t.1=6 then zh8 (za4 z tx d) true z tx ns.length r (ns++[ze9 t key])
  else .inr (r,ns++[ze9 t key])
def nbl(l:List Tok):List Tok:=l.filter fun t=>t.1 !=1
def za3(s:ByteArray)(a b:Nat):Bs:=(zb4 (s.extract a b)).1
def zc2(s:ByteArray):JErr⊕List JN:=
 if (zd0 s).2.2≠0 then .inl (zd0 s).2 else match za4 s.size (za3 s) 32 (nbl (zd0 s).1) (0,0) [] with
  | .inl e=> .inl e
  | .inr (l,ns)=>if l=[] then .inr ns else .inl (((l.head?).map fun t=>t.2.1).getD 0,2)
structure Ext(l:List Tok)(ns:List JN)(l':List Tok)(ns':List JN):Prop where
 ts:l'.length<l.length
 ln:ns.length<ns'.length
 at_: ∀i,i<ns.length->ns'[i]?=ns[i]?
structure ExtK(k:Nat)(l:List Tok)(ns:List JN)(l':List Tok)(ns':List JN):Prop where
 ts:l'.length<l.length
 ln:ns.length<=ns'.length
 at_: ∀i,i<ns.length->i≠k->ns'[i]?=ns[i]?
theorem zh1 {z one other:Nat} {l r:List Tok} {t:Tok} (h:ze4 z one other l= .inr (t,r)):l=t::r/\(t.1=one\/t.1=other):=by
 unfold ze4 at h;cases l with
 |nil=>cases h
 |cons x y=>
  simp only at h;by_cases hc:x.1≠one/\x.1≠other
  ·rw[if_pos hc]at h;cases h
  ·rw[if_neg hc]at h;cases h;refine⟨rfl,?_⟩;by_cases h1:t.1=one
   ·exact .inl h1
   ·exact .inr (Decidable.not_not.1 fun h2=>hc ⟨h1,h2⟩)
theorem zi1(ns:List JN)(k kid:Nat)(pc:Nat×Nat):(addN ns k kid pc).length=ns.length:=List.length_modify ..
theorem zh5(ns:List JN)(k b:Nat):(closeN ns k b).length=ns.length:=List.length_modify ..
theorem zt7 {ns:List JN} {k kid i:Nat} {pc:Nat×Nat} (h:i≠k):(addN ns k kid pc)[i]?=ns[i]?:=by
 unfold addN;rw[List.getElem?_modify];have hk: ¬k=i:=fun e=>h e.symm
 simp[hk]
theorem zj6 {ns:List JN} {k b i:Nat} (h:i≠k):(closeN ns k b)[i]?=ns[i]?:=by
 unfold closeN;rw[List.getElem?_modify];have hk: ¬k=i:=fun e=>h e.symm
 simp[hk]
section
variable {v:List Tok->Nat×Nat->List JN->JRes} {ob:Bool} {z:Nat} {tx:Nat->Nat->Bs}
theorem zy6(hv: ∀l key ns l' ns',v l key ns= .inr (l',ns')->Ext l ns l' ns') {had had':List Bs} {l l':List Tok} {ns ns':List JN} (h:kidM v ob z tx had l ns= .inr (had',l',ns')):Ext l ns l' ns':=by
 unfold kidM at h;cases ob with
 |false=>
  rw[if_neg (by simp)]at h;cases hr:v l (0,0) ns with
  |inl e=>rw[hr]at h;cases h
  |inr p=>
   rw[hr]at h;cases h;exact hv _ _ _ _ _ hr
 |true=>
  rw[if_pos rfl]at h;cases h1:ze4 z 8 8 l with
  |inl e=>rw[h1]at h;cases h
  |inr p=>
   obtain⟨t,r⟩:=p;rw[h1]at h;simp only at h;by_cases hm:tx t.2.1 t.2.2∈had
   ·rw[if_pos hm]at h;cases h
   ·rw[if_neg hm]at h;cases h2:ze4 z 7 7 r with
    |inl e=>rw[h2]at h;cases h
    |inr p=>
     obtain⟨t2,r2⟩:=p;rw[h2]at h;simp only at h;cases hr:v r2 (t.2.1,t.2.2) ns with
     |inl e=>rw[hr]at h;cases h
     |inr p=>
      rw[hr]at h;cases h;obtain⟨e1,_⟩:=zh1 h1;obtain⟨e2,_⟩:=zh1 h2;have hx:=hv _ _ _ _ _ hr;have h3:=hx.ts;subst e1 e2;exact⟨by simp only[List.length_cons];omega,hx.ln,hx.at_⟩
theorem zH0(hv: ∀l key ns l' ns',v l key ns= .inr (l',ns')->Ext l ns l' ns') {k:Nat}: ∀(f:Nat) {had:List Bs} {fr:Nat} {l l':List Tok} {ns ns':List JN},k<ns.length->zk6 v ob z tx k f had fr l ns= .inr (l',ns')->ExtK k l ns l' ns'
 |0,_,_,_,_,_,_,_,h=>by cases h
 |f+1,had,fr,l,l',ns,ns',hk,h=>by
  unfold zk6 at h;cases h1:kidM v ob z tx had l ns with
  |inl e=>rw[h1]at h;cases h
  |inr p=>
   obtain⟨had',l1,ns1⟩:=p;have hx:=zy6 hv h1;rw[h1]at h;simp only at h;cases h2:ze4 z 6 (ze7 ob) l1 with
   |inl e=>rw[h2]at h;cases h
   |inr p=>
    obtain⟨t,r⟩:=p;obtain⟨e2,_⟩:=zh1 h2;have h3:=hx.ts;have h4:=hx.ln;subst e2;rw[List.length_cons]at h3;rw[h2]at h;simp only at h;by_cases he:t.1=ze7 ob
    ·rw[if_pos he]at h;cases h;exact⟨by omega,by rw[zh5,zi1];omega,fun i hi hne=>by rw[zj6 hne,zt7 hne];exact hx.at_ i hi⟩
    ·rw[if_neg he]at h;have hy:=zH0 hv f (by rw[zi1];omega) h;have h5:=hy.ts;have h6:=hy.ln;rw[zi1]at h6;exact⟨by omega,by omega,fun i hi hne=>by rw[hy.at_ i (by rw[zi1];omega) hne,zt7 hne];exact hx.at_ i hi⟩
theorem zH2(hv: ∀l key ns l' ns',v l key ns= .inr (l',ns')->Ext l ns l' ns') {k:Nat} {l l':List Tok} {ns ns':List JN} (hk:k<ns.length)(h:zh8 v ob z tx k l ns= .inr (l',ns')):ExtK k l ns l' ns':=by
 unfold zh8 at h;split at h
 ·rename_i hh;cases h;cases l with
  |nil=>simp at hh
  |cons t r=>exact⟨by simp,by rw[zh5];exact Nat.le_refl _,fun i _ hne=>zj6 hne⟩
 ·exact zH0 hv _ hk h
end
theorem zg0(z:Nat)(tx:Nat->Nat->Bs): ∀(d:Nat) (l:List Tok) (key:Nat×Nat) (ns:List JN) (l':List Tok) (ns':List JN),za4 z tx d l key ns= .inr (l',ns')->Ext l ns l' ns'
 |d,[],key,ns,l',ns',h=>by unfold za4 at h;cases h
 |0,t::r,key,ns,l',ns',h=>by
  unfold za4 at h;split at h<;>cases h
 |d+1,t::r,key,ns,l',ns',h=>by
  have hk:ns.length<(ns++[ze9 t key]).length:=by simp
  have key2: ∀ {l':List Tok} {ns':List JN},ExtK ns.length r (ns++[ze9 t key]) l' ns'->Ext (t::r) ns l' ns':=fun hx=>by
   have h1:=hx.ts;have h2:=hx.ln;rw[List.length_append]at h2;simp only[List.length_cons,List.length_nil]at h2;exact⟨by rw[List.length_cons];omega,by omega,fun i hi=>by rw[hx.at_ i (by rw[List.length_append];omega) (by omega),List.getElem?_append_left hi]⟩
  unfold za4 at h;split at h
  ·cases h
  ·split at h
   ·cases h
   ·split at h
    ·exact key2 (zH2 (zg0 z tx d) hk h)
    ·split at h
     ·exact key2 (zH2 (zg0 z tx d) hk h)
     ·cases h;exact⟨by simp,hk,fun i hi=>List.getElem?_append_left hi⟩
end Go.Proofs.YtkafjblfjdpdaaaGreatDoor
namespace Go.Proofs.YtkafjblfjdpdaaaGreatDoor
theorem zN3 {z one other wh:Nat} {er:Int} {l:List Tok} (h:ze4 z one other l= .inl (wh,er)):er=2:=by
 unfold ze4 at h;cases l with
 |nil=>cases h;rfl
 |cons x y=>
  simp only at h;split at h
  ·cases h;rfl
  ·cases h
section
variable {v:List Tok->Nat×Nat->List JN->JRes} {ob:Bool} {z:Nat} {tx:Nat->Nat->Bs}
theorem kidM_er(hv: ∀l key ns wh er,v l key ns= .inl (wh,er)->er≠0) {had:List Bs} {l:List Tok} {ns:List JN} {wh:Nat} {er:Int} (h:kidM v ob z tx had l ns= .inl (wh,er)):er≠0:=by
 unfold kidM at h;split at h
 ·cases h1:ze4 z 8 8 l with
  |inl e=>
   rw[h1]at h;cases h;rw[zN3 h1];decide
  |inr p=>
   obtain⟨t,r⟩:=p;rw[h1]at h;simp only at h;split at h
   ·cases h;decide
   ·cases h2:ze4 z 7 7 r with
    |inl e=>
     rw[h2]at h;cases h;rw[zN3 h2];decide
    |inr p=>
     obtain⟨t2,r2⟩:=p;rw[h2]at h;simp only at h;cases hr:v r2 (t.2.1,t.2.2) ns with
     |inl e=>rw[hr]at h;cases h;exact hv _ _ _ _ _ hr
     |inr p=>rw[hr]at h;cases h
 ·cases hr:v l (0,0) ns with
  |inl e=>rw[hr]at h;cases h;exact hv _ _ _ _ _ hr
  |inr p=>rw[hr]at h;cases h
theorem loopM_er(hv: ∀l key ns wh er,v l key ns= .inl (wh,er)->er≠0) {k:Nat}: ∀(f:Nat) {had:List Bs} {fr:Nat} {l:List Tok} {ns:List JN} {wh:Nat} {er:Int},zk6 v ob z tx k f had fr l ns= .inl (wh,er)->er≠0
 |0,_,_,_,_,_,_,h=>by unfold zk6 at h;cases h;decide
 |f+1,had,fr,l,ns,wh,er,h=>by
  unfold zk6 at h;cases h1:kidM v ob z tx had l ns with
  |inl e=>rw[h1]at h;cases h;exact kidM_er hv h1
  |inr p=>
   obtain⟨had',l1,ns1⟩:=p;rw[h1]at h;simp only at h;cases h2:ze4 z 6 (ze7 ob) l1 with
   |inl e=>
    rw[h2]at h;cases h;rw[zN3 h2];decide
   |inr p=>
    obtain⟨t,r⟩:=p;rw[h2]at h;simp only at h;split at h
    ·cases h
    ·exact loopM_er hv f h
theorem listM_er(hv: ∀l key ns wh er,v l key ns= .inl (wh,er)->er≠0) {k:Nat} {l:List Tok} {ns:List JN} {wh:Nat} {er:Int} (h:zh8 v ob z tx k l ns= .inl (wh,er)):er≠0:=by
 unfold zh8 at h;split at h
 ·cases h
 ·exact loopM_er hv _ h
end
theorem zE1(z:Nat)(tx:Nat->Nat->Bs): ∀(d:Nat) (l:List Tok) (key:Nat×Nat) (ns:List JN) (wh:Nat) (er:Int),za4 z tx d l key ns= .inl (wh,er)->er≠0
 |d,[],key,ns,wh,er,h=>by unfold za4 at h;cases h;decide
 |0,t::r,key,ns,wh,er,h=>by
  unfold za4 at h;split at h<;>(cases h;decide)
 |d+1,t::r,key,ns,wh,er,h=>by
  unfold za4 at h;split at h
  ·cases h;decide
  ·split at h
   ·cases h;decide
   ·split at h
    ·exact listM_er (zE1 z tx d) h
    ·split at h
     ·exact listM_er (zE1 z tx d) h
     ·cases h
theorem zM1 {s:ByteArray} {wh:Nat} {er:Int} (h:zc2 s= .inl (wh,er)):er≠0:=by
 unfold zc2 at h;split at h
 ·rename_i h1;have:=Sum.inl.inj h;rw[this]at h1;exact h1
 ·cases hv:za4 s.size (za3 s) 32 (nbl (zd0 s).1) (0,0) [] with
  |inl e=>rw[hv]at h;cases h;exact zE1 _ _ _ _ _ _ _ _ hv
  |inr p=>
   rw[hv]at h;simp only at h;split at h
   ·cases h
   ·cases h;decide
end Go.Proofs.YtkafjblfjdpdaaaGreatDoor
