/-
  WALK: small of layer 6, its first six regions.
  WALK of reading: the small cases of the laws.
  A TREE AS AN ARGUMENT, read, with a bound of all that it holds by its datum's bulk.
  PLAIN MATHEMATICS: a text in lines without its blanks is the one in a line; how many lines it has (PrintLines).
  WALK: the law PrintCanons, over its small case.
  WALK: Compact of a tree, by how much it holds; the law PrintParts, over its small case.
-/
import Derived.Test.YtkafjblfjdpdaaaGreatDoorRdi
import Derived.Test.YtkafjblfjdpdaaaGreatDoorVtF
import Derived.Test.YtkafjblfjdpdaaaGreatDoorPrU
namespace Go.Proofs.YtkafjblfjdpdaaaGreatDoor
open Go.RowKit
def lfC(k:Int)(t:Bs):Array Value:= #[.int .i64 k,.string (st t),.slice none 0 0,.slice none 0 0]
theorem leaf_ok(k:Int)(t:Bs)(W:World)(hk:-9223372036854775808<=k/\k<=9223372036854775807)(ht:t.length<=maxLen):(zl8 k t).Ok W:=
 .mk _ _ _ _ _ _ hk ht ⟨Nat.le_refl _,Nat.zero_le _,StrsIn.nil _ _⟩ (fun x hx=>by cases hx) (Nat.le_refl _) (Nat.zero_le _) (fun i hi=>absurd hi (Nat.not_lt_zero i)) (fun i hi=>absurd hi (Nat.not_lt_zero i))
structure Pk(w:World)(g1 g2 g3 g4:Nat)(W:World):Prop where
 lo:Below w.heap.size w W
 o1:Whole W g1 26 #[.int .i64 3,.string (st [49]),.slice none 0 0,.slice none 0 0]
 o2:Whole W g2 26 #[.int .i64 3,.string (st [50]),.slice none 0 0,.slice none 0 0]
 k1:Whole W (g2+1) 9 #[.string ⟨#[97]⟩,.string ⟨#[98]⟩]
 i1:Whole W (g2+1+1) 26 #[.int .i64 3,.string (st [49]),.slice none 0 0,.slice none 0 0,.int .i64 3,.string (st [50]),.slice none 0 0,.slice none 0 0]
 x:Whole W g3 26 #[.int .i64 6,.string ⟨#[]⟩,.slice (some ⟨g2+1,0,none⟩) 2 2,.slice (some ⟨g2+1+1,0,none⟩) 2 2]
 k2:Whole W (g3+1) 9 #[.string ⟨#[98]⟩,.string ⟨#[97]⟩]
 i2:Whole W (g3+1+1) 26 #[.int .i64 3,.string (st [50]),.slice none 0 0,.slice none 0 0,.int .i64 3,.string (st [49]),.slice none 0 0,.slice none 0 0]
 y:Whole W g4 26 #[.int .i64 6,.string ⟨#[]⟩,.slice (some ⟨g3+1,0,none⟩) 2 2,.slice (some ⟨g3+1+1,0,none⟩) 2 2]
theorem Pk.grow {w W W':World} {g1 g2 g3 g4:Nat} (h:Pk w g1 g2 g3 g4 W)(hb:Below W.heap.size W W'):Pk w g1 g2 g3 g4 W':=
 ⟨za h.lo hb,h.o1.grow hb,h.o2.grow hb,h.k1.grow hb,h.i1.grow hb,h.x.grow hb,h.k2.grow hb,h.i2.grow hb,h.y.grow hb⟩
theorem Pk.drew {w W:World} {g1 g2 g3 g4:Nat} (h:Pk w g1 g2 g3 g4 W):Pk w g1 g2 g3 g4 W.drew:=h.grow (Below.refl _ _).drew
theorem Pk.alloc {w W:World} {g1 g2 g3 g4:Nat} (h:Pk w g1 g2 g3 g4 W)(ob:Obj):Pk w g1 g2 g3 g4 (W.alloc ob):=h.grow (za0 W ob)
def oneL:Vl:= .mk 3 [49] [] []
def twoL:Vl:= .mk 3 [50] [] []
def xL:Vl:= .mk 6 [] [[97],[98]] [oneL,twoL]
def yL:Vl:= .mk 6 [] [[98],[97]] [twoL,oneL]
def zL:Vl:= .mk 5 [] [] [oneL,.mk 5 [] [] [twoL]]
def xT(g2:Nat):Vt:= .mk 6 [] ⟨some ⟨g2+1,0,none⟩,2,[[97],[98]]⟩ (some ⟨g2+1+1,0,none⟩) 2 [zl8 3 [49],zl8 3 [50]]
def yT(g3:Nat):Vt:= .mk 6 [] ⟨some ⟨g3+1,0,none⟩,2,[[98],[97]]⟩ (some ⟨g3+1+1,0,none⟩) 2 [zl8 3 [50],zl8 3 [49]]
def rT(g:Nat):Vt:= .mk 5 [] ⟨none,0,[]⟩ (some ⟨g,0,none⟩) 1 [zl8 3 [49]]
def rT2(g:Nat):Vt:= .mk 5 [] ⟨none,0,[]⟩ (some ⟨g,0,none⟩) 2 [zl8 3 [49],zl8 3 [50]]
def jT(g:Nat):Vt:= .mk 5 [] ⟨none,0,[]⟩ (some ⟨g,0,none⟩) 1 [zl8 3 [50]]
def zT(gi gj:Nat):Vt:= .mk 5 [] ⟨none,0,[]⟩ (some ⟨gi,0,none⟩) 2 [zl8 3 [49],jT gj]
structure Pq(w:World)(g1 g2 g3 g4 g5 gi gj g6:Nat)(GV:Array Value)(W:World):Prop where
 pk:Pk w g1 g2 g3 g4 W
 z:Whole W g5 26 #[.int .i64 5,.string ⟨#[]⟩,.slice none 0 0,.slice (some ⟨gi,0,none⟩) 2 2]
 zi:Whole W gi 26 #[.int .i64 3,.string (st [49]),.slice none 0 0,.slice none 0 0,.int .i64 5,.string ⟨#[]⟩,.slice none 0 0,.slice (some ⟨gj,0,none⟩) 1 1]
 zj:Whole W gj 26 #[.int .i64 3,.string (st [50]),.slice none 0 0,.slice none 0 0]
 g:Whole W g6 26 GV
theorem Pq.grow {w W W':World} {g1 g2 g3 g4 g5 gi gj g6:Nat} {GV:Array Value} (h:Pq w g1 g2 g3 g4 g5 gi gj g6 GV W)(hb:Below W.heap.size W W'):Pq w g1 g2 g3 g4 g5 gi gj g6 GV W':=
 ⟨h.pk.grow hb,h.z.grow hb,h.zi.grow hb,h.zj.grow hb,h.g.grow hb⟩
theorem Pq.drew {w W:World} {g1 g2 g3 g4 g5 gi gj g6:Nat} {GV:Array Value} (h:Pq w g1 g2 g3 g4 g5 gi gj g6 GV W):Pq w g1 g2 g3 g4 g5 gi gj g6 GV W.drew:=h.grow (Below.refl _ _).drew
theorem Pq.alloc {w W:World} {g1 g2 g3 g4 g5 gi gj g6:Nat} {GV:Array Value} (h:Pq w g1 g2 g3 g4 g5 gi gj g6 GV W)(ob:Obj):Pq w g1 g2 g3 g4 g5 gi gj g6 GV (W.alloc ob):=h.grow (za0 W ob)
def GetB(V:World)(e:Ending)(V':World):Prop:= ∃(ko:Option Addr) (kc:Nat) (o:Option Addr) (c:Nat),e= .returned (.tuple #[.agg #[.int .i64 3,.string (st [50]),.slice ko 0 kc,.slice o 0 c],.bool true])/\Below V.heap.size V V'
def IsX(a:Value)(V:World):Prop:= ∃y:Vt,a=y.v/\y.Ok V/\y.m=xL
def SrtB(V:World)(e:Ending)(V':World):Prop:= ∃a:Value,e= .returned a/\Hq (IsX a V')/\Below V.heap.size V V'
abbrev rl1:ByteArray:=⟨#[32,91,49,46,48,44,32,34,92,117,48,48,54,49,34,93,32]⟩
abbrev rl2:ByteArray:=⟨#[123,34,97,34,58,91,49,44,50,93,125]⟩
abbrev rn1:List JN:=[⟨5,1,16,0,0,[1,2],[(2,5),(6,15)]⟩,⟨3,2,5,0,0,[],[]⟩,⟨4,7,15,0,0,[],[]⟩]
abbrev rn2:List JN:=[⟨6,0,11,0,0,[1],[(1,10)]⟩,⟨5,5,10,1,4,[2,3],[(6,7),(8,9)]⟩,⟨3,6,7,0,0,[],[]⟩,⟨3,8,9,0,0,[],[]⟩]
abbrev rv1:Vl:= .mk 5 [] [] [.mk 3 [49] [] [],.mk 4 [97] [] []]
theorem zF9 {v:Vl} (h:v.allB (fun x=>decide (-1000<=x.k)&&decide (x.k<=1000)&&decide (x.t.length<=100)&&x.ks.all (fun k=>decide (k.length<=100)))=true):v.All Vl.Rng:=by
 revert h;refine Vl.ind (P:=fun v=>v.allB _=true->v.All Vl.Rng) (fun k t ks is ih h=> ?_) v;simp only[Vl.allB,Bool.and_eq_true,Vl.allsB_iff,decide_eq_true_eq,List.all_eq_true]at h;obtain⟨⟨⟨⟨h1,h2⟩,h3⟩,h4⟩,h5⟩:=h;exact .mk _ _ _ _ ⟨⟨Int.le_trans (by decide) h1,Int.le_trans h2 (by decide)⟩,Nat.le_trans h3 (by decide),fun k hk=>Nat.le_trans (h4 k hk) (by decide)⟩ (fun x hx=>ih x hx (h5 x hx))
def IsVR(m:Vl)(a:Value)(V:World):Prop:= ∃y:Vt,a=y.v/\y.Ok V/\y.m=m
theorem zI {m n:Vl} {A B:Value} {V:World} {r:Bool} (hA:IsVR m A V)(hB:IsVR n B V)(hr:r=true↔m=n):Calls Tryz.prog 11 #[A,B] V (zm9 r V):=by
 obtain⟨x,rfl,hx,rfl⟩:=hA;obtain⟨y,rfl,hy,rfl⟩:=hB;refine(zH9 x y V hx hy).mono (fun e W ⟨v,h1,h2,h3⟩=>⟨?_,h3⟩);rw[h1,Bool.eq_iff_iff.2 (h2.trans hr.symm)]
theorem IsVR.growR {m:Vl} {a:Value} {V W:World} (h:IsVR m a V)(hb:Below V.heap.size V W):IsVR m a W:=by
 obtain⟨y,h1,h2,h3⟩:=h;exact⟨y,h1,h2.grow hb,h3⟩
def slB:Value->Nat| .slice (some a) _ _=>a.block|_=>0
def itB:Value->Nat| .agg #[_,_,_,i]=>slB i|_=>0
def RLK(va:Value)(g9:Nat)(i:Nat)(v:Value)(_ _:Nat)(W:World):Prop:=match i with
 |0=>v= .int .i64 0
 |3=>v= .int .i64 17
 |7=>v=va
 |8=>v= .agg #[.int .i64 3,.string (st [49]),.slice none 0 0,.slice none 0 0]
 |9=>v= .agg #[.int .i64 4,.string (st [97]),.slice none 0 0,.slice none 0 0]
 |10=>v= .slice (some ⟨slB v,0,none⟩) 2 2/\Whole W (slB v) 26 #[.int .i64 3,.string (st [49]),.slice none 0 0,.slice none 0 0,.int .i64 4,.string (st [97]),.slice none 0 0,.slice none 0 0]
 |11=>v= .agg #[.int .i64 5,.string ⟨#[]⟩,.slice none 0 0,.slice (some ⟨itB v,0,none⟩) 2 2]/\Whole W (itB v) 26 #[.int .i64 3,.string (st [49]),.slice none 0 0,.slice none 0 0,.int .i64 4,.string (st [97]),.slice none 0 0,.slice none 0 0]
 |15=>v= .int .i64 0
 |19=>v= .int .i64 3
 |29=>v= .pointer (some ⟨g9,1,none⟩)
 |30=>v= .string (st [50])
 |_=>v= .bool true
end Go.Proofs.YtkafjblfjdpdaaaGreatDoor
namespace Go.Proofs.YtkafjblfjdpdaaaGreatDoor
open Go.ChangeShapes Go.WideShapes Go.ChangeAt Go.RowKit Go.Deep
mutual
def Vl.blk:Vl->Nat
 | .mk _ t ks is=>5+t.length+(ks.map fun k=>k.length+1).sum+Vl.blks is
def Vl.blks:List Vl->Nat
 | []=>0
 |v::l=>v.blk+Vl.blks l
end
def strW(l:List Bs):Nat:=(l.map fun k=>k.length+1).sum
section
variable {H:Type} {enc:TypeId×Value->H} {P:Program} {w:World} {base:Nat} {spare:Nat->Bool} {held:Bool}
end
def bareM:Bool->Bs->Bs
 |_,[]=> []
 |b,[c]=>if ((if c=34 then !b else b)||(c !=32&&c !=10))=true then [c] else []
 |b,c::d::l=>if b=true/\c=92 then c::d::bareM b l else(if ((if c=34 then !b else b)||(c !=32&&c !=10))=true then [c] else [])++bareM (if c=34 then !b else b) (d::l)
inductive All2 (p:Bs->Bs->Prop):List Bs->List Bs->Prop
 |nil:All2 p [] []
 |cons {x y:Bs} {l₁ l₂:List Bs}:p x y->All2 p l₁ l₂->All2 p (x::l₁) (y::l₂)
def Bare(x y:Bs):Prop:= ∀r,bareM false (x++r)=y++bareM false r
theorem leaf_okP(k:Int)(t:Bs)(W:World)(hk:-9223372036854775808<=k/\k<=9223372036854775807)(ht:t.length<=maxLen):(zl8 k t).Ok W:=
 .mk _ _ _ _ _ _ hk ht ⟨Nat.le_refl _,Nat.zero_le _,StrsIn.nil _ _⟩ (fun x hx=>by cases hx) (Nat.le_refl _) (Nat.zero_le _) (fun i hi=>absurd hi (Nat.not_lt_zero i)) (fun i hi=>absurd hi (Nat.not_lt_zero i))
theorem leaf4_pri {k:Bs} (h:k.length<=1024)(W:World):Pri (zl8 4 k) W:=by
 refine⟨⟨leaf_okP 4 k W (by decide) (Nat.le_trans h (by decide)),?_,?_⟩,?_⟩<;>rw[zP7]
 ·exact .mk _ _ _ _ ⟨Nat.le_trans h (by decide),(fun x hx=>by cases hx)⟩ (fun x hx=>by cases hx)
 ·show (1:Nat)+0<=1000000;decide
 ·exact .mk _ _ _ _ ⟨Nat.le_trans h (by decide),(fun x hx=>by cases hx)⟩ (fun x hx=>by cases hx)
end Go.Proofs.YtkafjblfjdpdaaaGreatDoor
