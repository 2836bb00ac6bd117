/-
  WALKS: of a printer: String, quoted, line.
  WALKS: print.printer's list.
-/
import Derived.Test.YtkafjblfjdpdaaaGreatDoorPrA
import Derived.Test.YtkafjblfjdpdaaaGreatDoorUnqD
set_option maxHeartbeats 8000000
set_option maxRecDepth 1000000
namespace Go.Proofs.YtkafjblfjdpdaaaGreatDoor
open Go.RowKit
def qtB(t:Bs):Bs:=(zg6 (st t)).1
def lnB(ls:Bool)(n lev:Nat):Bs:=if ls=true then 10::List.replicate (n*lev) 32 else []
def zf6(B b:Nat)(l:Bs)(ls:Bool)(n:Int)(w:World)(e:Ending)(w':World):Prop:=e= .returned (.tuple #[])/\PrW B b l ls n w w'
theorem PrW.after {B b:Nat} {l:Bs} {ls:Bool} {n:Int} {w w1 w2:World} (hb:Below w.heap.size w w1)(hB:B<=w.heap.size)(h:PrW B b l ls n w1 w2):PrW B b l ls n w w2:=
 ⟨h.1,(hb.mono hB).trans h.2.1,fun k o hk hne ho=>h.2.2 k o ((hb.block k (Array.getElem?_eq_some_iff.1 hk).1).trans hk) hne ho⟩
theorem PrW.none {B b:Nat} {l:Bs} {ls:Bool} {n:Int} {w:World} (h:Prn B b l ls n w):PrW B b l ls n w w:=⟨h,Below.refl B w,Lib.OthersKept.refl _ _ _⟩
theorem pString(B b:Nat)(l:Bs)(ls:Bool)(n:Int)(w:World)(h:Prn B b l ls n w)(h0:l≠ []):
 Calls Tryz.prog 90 #[.pointer (some ⟨b,0,none⟩)] w fun e w'=>e= .returned (.string (st l))/\Below B w w':=by
 obtain⟨p,hB,v,hbk,hown⟩: ∃p,PrAt B b p l ls n w:=by
  rcases h with h|h
  ·exact ⟨_,h⟩
  ·exact ⟨_,h⟩
 have hl0:l.length≠0:=by simpa using h0
 obtain⟨g,cap,cur,rfl,hbg,hg,hnc,hcm,hcs,htake⟩: ∃g cap cur,v= .slice (some ⟨g,0,none⟩) l.length cap/\B<=g/\w.heap[g]?=some (.cells cur 5 (0,0))/\l.length<=cap/\cap<=maxLen/\cur.size=cap*1/\cur.toList.take (l.length*1)=Lib.byteCells l:=by
  rcases hown.2 with ⟨_,hz⟩|⟨g,cap,cur,hv,r⟩
  ·exact absurd hz hl0
  ·exact ⟨g,cap,cur,hv,r⟩
 have c1:w.drew.cell? ⟨b,1,none⟩=some (.slice (some ⟨g,0,none⟩) l.length cap):=by
  have:w.drew.heap[b]?=some (.cells #[p,.slice (some ⟨g,0,none⟩) l.length cap,.bool ls,.int .i64 n] 100 (0,0)):=hbk;rw[Lib.cell_of_heap this];rfl
 have c2:w.cell? ⟨b,1,none⟩=some (.slice (some ⟨g,0,none⟩) l.length cap):=c1;have hSD:(Builtin.unsafeSliceData_ #[96] 166 #[.slice (some ⟨g,0,none⟩) l.length cap]).run Tryz.prog w.drew= .ok (.pointer (some ⟨g,0,none⟩)) w.drew:=
  Lib.run_unsafeSliceData_row _ _ _ _ _ _ (by omega)
 have hUS:(Builtin.unsafeString_ #[166,3] 9 #[.pointer (some ⟨g,0,none⟩),.int .i64 l.length]).run Tryz.prog w.drew= .ok (.string ⟨l.toArray⟩) (w.drew.freeze ⟨g,0,none⟩ l.length):=by
  refine Lib.run_unsafeString_row w.drew 166 3 9 5 (by kernel_rfl) (by kernel_rfl) g cur.size (by have hg':w.drew.heap[g]?=some (.cells cur 5 (0,0)):=hg;simp[World.shape?,hg']) l h0 (by omega) (by unfold maxLen at hcm;omega) ?_;intro j x hx;have:=hown.cells (g:=g) rfl j (.int .u8 x.toNat) (by simp[Lib.byteCells,hx]);exact this
 have HV:Hq ((.returned (.string ⟨l.toArray⟩):Ending)= .returned (.string (st l))/\Below B w (w.drew.freeze ⟨g,0,none⟩ l.length)):=hq ⟨rfl,Lib.below_freeze (Below.drew (Below.refl B w)) (p:=⟨g,0,none⟩) hbg _⟩;clear h hown hg hcs htake hbk;go_enter Tryz.func90,Tryz.ntmps90
 go_wp2
 go_region
 all_goals (go_wp2;go_ret;exact⟨rfl,HV.o.2⟩)
theorem pquoted(B b:Nat)(l t:Bs)(ls:Bool)(n:Int)(w:World)(hT:tabs w)(h:Prn B b l ls n w)(ht:t.length<=1099511627776)(hl:l.length+(qtB t).length<=140737488355328)(hB:B<=w.heap.size):
 Calls Tryz.prog 133 #[.pointer (some ⟨b,0,none⟩),.string (st t)] w (zf6 B b (l++qtB t) ls n w):=by
 have HQ:=hq (quote_any (st t) w hT (by rw[za8];exact ht));have HW:=hq (fun W (hb:Below w.heap.size w W)=>zO8 B b l (qtB t) ls n W (h.grow hb) hl (Nat.le_trans hB hb.size));have HP:Hq (∀W W',Below w.heap.size w W->PrW B b (l++qtB t) ls n W W'->zf6 B b (l++qtB t) ls n w (.returned (.tuple #[])) W'):=hq (fun W W' hb h2=>⟨rfl,h2.after hb hB⟩);generalize zf6 B b (l++qtB t) ls n w=PP at *;unfold qtB at *;generalize zg6 (st t)=Q at *;clear h hl hB hT ht;go_enter Tryz.func133,Tryz.ntmps133
 go_wp2_with fail
 refine HQ.o.mono ?_;rintro e w1 ⟨rfl,hb1⟩;have HW1:=hq (HW.o w1 hb1);have HP1:=hq (fun W'=>HP.o w1 W' hb1);clear HQ HW HP hb1;go_wp2_with fail
 refine HW1.o.mono ?_;rintro e w2 ⟨⟨m,rfl⟩,h2⟩;have HV:=hq (HP1.o w2 h2);clear HW1 HP1 h2;go_wp2_with fail
 first
  |exact HV.o
  |(go_end0
    exact HV.o)
theorem below_drew' {w w':World} (h:Below w.drew.heap.size w.drew w'):Below w.heap.size w w':=⟨h.os,h.tape,h.output,h.size,h.block⟩
theorem blanks_are(k:Nat):Lib.repeatL [32] k=List.replicate k 32:=by
 induction k with
 |zero=>rfl
 |succ k ih=>rw[Lib.repeatL,ih];rfl
theorem pline(B b:Nat)(l:Bs)(ls:Bool)(n lev:Nat)(w:World)(h:Prn B b l ls (n:Int) w)(hn:n<=1000)(hv:lev<=1000000)(hl:l.length+(lnB ls n lev).length<=140737488355328)(hB:B<=w.heap.size):
 Calls Tryz.prog 172 #[.pointer (some ⟨b,0,none⟩),.int .i64 (lev:Int)] w (zf6 B b (l++lnB ls n lev) ls (n:Int) w):=by
 obtain⟨c2,c3⟩:=h.cells;cases ls with
 |false=>
  have HV:Hq (zf6 B b (l++lnB false n lev) false (n:Int) w (.returned (.tuple #[])) w):=hq ⟨rfl,by
   have:l++lnB false n lev=l:=by simp[lnB]
   rw[this];exact PrW.none h⟩
  generalize zf6 B b (l++lnB false n lev) false (n:Int) w=PP at *;clear h hl;go_enter Tryz.func172,Tryz.ntmps172
  go_wp2_with fail
  first
   |exact HV.o
   |(go_end0
     exact HV.o)
 |true=>
  have hm8:n*lev<=1000*1000000:=Nat.mul_le_mul hn hv;have hlen:l.length+(1+n*lev)<=140737488355328:=by
   have:(lnB true n lev).length=1+n*lev:=by simp[lnB];omega
   omega
  have HW:=hq (pbyte B b l true (n:Int) 10 w h (by omega) hB);have HR:=hq (fun W=>Tryz.strings_Repeat (st [32]) (n*lev) W (by omega) (by rw[za8];simp only[List.length_singleton];omega));have HS:=hq (fun W1 W (h1:PrW B b (l++[10]) true (n:Int) w W1) (hb:Below W1.heap.size W1 W)=>zO8 B b (l++[10]) (List.replicate (n*lev) 32) true (n:Int) W (h1.1.grow hb) (by simp;omega) (Nat.le_trans hB (Nat.le_trans h1.2.1.size hb.size)));have HP:Hq (∀W1 W W',PrW B b (l++[10]) true (n:Int) w W1->Below W1.heap.size W1 W->PrW B b (l++[10]++List.replicate (n*lev) 32) true (n:Int) W W'->zf6 B b (l++lnB true n lev) true (n:Int) w (.returned (.tuple #[])) W'):=hq (fun W1 W W' h1 hb h2=>⟨rfl,by
   have:l++lnB true n lev=l++[10]++List.replicate (n*lev) 32:=by simp[lnB]
   rw[this];exact h1.trans (h2.after hb (Nat.le_trans hB h1.2.1.size))⟩)
  have hrep:(⟨(Lib.repeatL (st [32]).data.toList (n*lev)).toArray⟩:ByteArray)=st (List.replicate (n*lev) 32):=by
   show(⟨(Lib.repeatL [32] (n*lev)).toArray⟩:ByteArray)=_;rw[blanks_are]
  have hmi:(n:Int)*(lev:Int)=((n*lev:Nat):Int):=by simp
  have hwr:IntKind.i64.wrap ((n*lev:Nat):Int)=((n*lev:Nat):Int):=IntWalk.i64_in _ (by omega);rw[hrep]at HR;generalize zf6 B b (l++lnB true n lev) true (n:Int) w=PP at *;generalize List.replicate (n*lev) (32:UInt8)=R at *;have HC:Hq (∀W,PrW B b (l++[10]) true (n:Int) w W->W.cell? ⟨b,3,none⟩=some (.int .i64 (n:Int))):=hq (fun W hW=>hW.1.cells.2);clear h hl hB hrep hlen;generalize n*lev=m at *;go_enter Tryz.func172,Tryz.ntmps172
  go_wp2_with fail
  refine HW.o.mono ?_;rintro e w1 ⟨rfl,h1⟩;have c4:=HC.o _ h1;have HH:=hq h1;clear HW HC h1 c2 c3;go_wp2_with fail
  go_region_with (first|(go_at_call 178;refine(HR.o _).mono ?_;rintro e w2 ⟨rfl,hb2⟩;have HB2:=hq (below_drew' hb2))|(go_at_call 91;refine(HS.o _ _ HH.o (HB2.o)).mono ?_;rintro e w3 ⟨⟨m',rfl⟩,h3⟩;have HV:=hq (HP.o _ _ _ HH.o HB2.o h3)))
  all_goals (go_wp2_with fail;first|exact HV.o|(go_end0;exact HV.o))
def zf3(ln:Bs):List Bs->Bs
 | []=> []
 |x::r=>ln++x++r.flatMap fun y=>44::(ln++y)
def zk7(ls:Bool)(n lev:Nat)(o c:UInt8)(its:List Bs):Bs:=o::(zf3 (lnB ls n (lev+1)) its++(if its=[] then [] else lnB ls n lev)++[c])
theorem commaB_snoc(ln x:Bs): ∀l:List Bs,zf3 ln (l++[x])=zf3 ln l++(if l=[] then [] else [44])++ln++x
 | []=>by simp[zf3]
 |y::l=>by simp[zf3]
theorem commaB_le(ln:Bs)(r:List Bs): ∀l:List Bs,(zf3 ln l).length<=(zf3 ln (l++r)).length
 | []=>by simp[zf3]
 |y::l=>by simp[zf3]
theorem commaB_take {ln:Bs} {its:List Bs} {j:Nat} (h:j<its.length):zf3 ln (its.take (j+1))=zf3 ln (its.take j)++(if j=0 then [] else [44])++ln++its[j]:=by
 rw[List.take_succ_eq_append_getElem h,commaB_snoc];have:(its.take j=[])↔j=0:=by
  rw[List.take_eq_nil_iff];constructor
  ·rintro (h1|h1)
   ·exact h1
   ·subst h1;simp at h
  ·exact .inl
 by_cases hj:j=0
 ·rw[if_pos (this.2 hj),if_pos hj]
 ·rw[if_neg (fun h=>hj (this.1 h)),if_neg hj]
theorem commaB_upto(ln:Bs)(its:List Bs)(j:Nat):(zf3 ln (its.take j)).length<=(zf3 ln its).length:=by
 have h:=commaB_le ln (its.drop j) (its.take j);rwa [List.take_append_drop]at h
theorem plist {w0:World} (b:Nat)(l:Bs)(ls:Bool)(n lev:Nat)(o c:UInt8)(its:List Bs)(F:Nat)(rc:Value)(w:World)
 (hcf: ∀(args:Array Value) (w:World),(callFunc F args).run Tryz.prog w= .ok (.enter F args) w)
 (hit: ∀(j:Nat) (hj:j<its.length) (l':Bs) (W:World),Below w0.heap.size w0 W->Prn w0.heap.size b l' ls (n:Int) W->l'.length+its[j].length<=140737488355328->Calls Tryz.prog F #[rc,.int .i64 (j:Int),.int .i64 ((lev:Int)+1)] W (zf6 w0.heap.size b (l'++its[j]) ls (n:Int) W))
 (hb:Below w0.heap.size w0 w) (h:Prn w0.heap.size b l ls (n:Int) w) (hn:n<=1000) (hv:lev<=999999) (hz:its.length<=9223372036854775807) (hl:l.length+(zk7 ls n lev o c its).length<=140737488355328):
 Calls Tryz.prog 134 #[.pointer (some ⟨b,0,none⟩),.string (st [o]),.string (st [c]),.int .i64 (its.length:Int),.int .i64 (lev:Int),.func (.func F) #[rc] #[]] w (zf6 w0.heap.size b (l++zk7 ls n lev o c its) ls (n:Int) w):=by
 have HB:=hq (fun (l':Bs) (ch:UInt8) W (hW:PrW w0.heap.size b l' ls (n:Int) w W) (h1:l'.length+1<=140737488355328)=>(pbyte w0.heap.size b l' ls (n:Int) ch W hW.1 h1 (Nat.le_trans hb.size hW.2.1.size)).mono (fun (e:Ending) W' ⟨he,h2⟩=>(⟨he,hW.trans h2⟩:e=Ending.returned .nilIface/\PrW w0.heap.size b (l'++[ch]) ls (n:Int) w W')));have HS:=hq (fun (l':Bs) (t:Bs) W (hW:PrW w0.heap.size b l' ls (n:Int) w W) (h1:l'.length+t.length<=140737488355328)=>(zO8 w0.heap.size b l' t ls (n:Int) W hW.1 h1 (Nat.le_trans hb.size hW.2.1.size)).mono (fun (e:Ending) W' ⟨he,h2⟩=>(⟨he,hW.trans h2⟩:(∃m,e=Ending.returned (.tuple #[.int .i64 m,.nilIface]))/\PrW w0.heap.size b (l'++t) ls (n:Int) w W')));have HL:Hq (∀(l':Bs) (lv:Nat) (W:World),PrW w0.heap.size b l' ls (n:Int) w W->lv<=1000000->l'.length+(lnB ls n lv).length<=140737488355328->Calls Tryz.prog 172 #[.pointer (some ⟨b,0,none⟩),.int .i64 (lv:Int)] W (zf6 w0.heap.size b (l'++lnB ls n lv) ls (n:Int) w)):=hq (fun l' lv W hW h0 h1=>(pline w0.heap.size b l' ls n lv W hW.1 hn h0 h1 (Nat.le_trans hb.size hW.2.1.size)).mono (fun e W' hh=>⟨hh.1,hW.trans hh.2⟩));have HI:Hq (∀(j:Nat) (hj:j<its.length) (l':Bs) (W:World),PrW w0.heap.size b l' ls (n:Int) w W->l'.length+its[j].length<=140737488355328->Calls Tryz.prog F #[rc,.int .i64 (j:Int),.int .i64 ((lev:Int)+1)] W (zf6 w0.heap.size b (l'++its[j]) ls (n:Int) w)):=hq (fun j hj l' W hW h1=>(hit j hj l' W (hb.trans hW.2.1) hW.1 h1).mono (fun e W' hh=>⟨hh.1,hW.trans hh.2⟩));have H0:=hq (PrW.none h);have HP:Hq (∀(q:Bs) W',q=l++zk7 ls n lev o c its->PrW w0.heap.size b q ls (n:Int) w W'->zf6 w0.heap.size b (l++zk7 ls n lev o c its) ls (n:Int) w (.returned (.tuple #[])) W'):=hq (fun q W' he h2=>⟨rfl,he▸h2⟩);have HLB:Hq (zk7 ls n lev o c its=o::(zf3 (lnB ls n (lev+1)) its++(if its=[] then [] else lnB ls n lev)++[c])):=hq rfl;generalize zf6 w0.heap.size b (l++zk7 ls n lev o c its) ls (n:Int) w=PP at *;generalize zk7 ls n lev o c its=LB at *;have hlb:LB.length=1+(zf3 (lnB ls n (lev+1)) its).length+(if its=[] then [] else lnB ls n lev).length+1:=by rw[HLB.o];simp;omega
 have HLN:=hq (And.intro hl hlb);have hle:(lev:Int)<=999999:=by omega
 have hd1:((lev+1:Nat):Int)=(lev:Int)+1:=by omega
 clear h hit hb hl hlb;have HU:=hq (fun l' W hW h0 h1=>HL.o l' (lev+1) W hW h0 h1);rw[hd1]at HU;have HE:=hq (fun l' W hW h0 h1=>HL.o l' lev W hW h0 h1);clear HL hd1;go_enter Tryz.func134,Tryz.ntmps134
 go_wp2_with fail
 refine(HS.o l [o] w H0.o (by have:=HLN.o;simp only[List.length_singleton];omega)).mono ?_;rintro e w1 ⟨⟨m,rfl⟩,h1⟩;have H1:=hq h1;clear h1 H0;go_wp2_with fail
 go_loopw [19] (fun i wr=> ∃(j:Nat),j<=its.length/\i= .int .i64 (j:Int)/\Hq (PrW w0.heap.size b (l++[o]++zf3 (lnB ls n (lev+1)) (its.take j)) ls (n:Int) w wr)) (fun i _=>its.length-(intOf i).toNat)
 case atStart=>exact⟨0,Nat.zero_le _,rfl,hq (by simpa [zf3] using H1.o)⟩
 case round=>
  obtain⟨j,hj,rfl,hp⟩:=hrel;by_cases h:j<its.length
  ·have hz':(j:Int)<(its.length:Int):=by omega
   have HT:=hq (commaB_take (ln:=lnB ls n (lev+1)) h);have hlt:=commaB_upto (lnB ls n (lev+1)) its (j+1);rw[HT.o]at hlt;have HI1:=hq (HI.o j h);generalize its[j]=x at *;generalize zf3 (lnB ls n (lev+1)) (its.take j)=C0 at *;generalize zf3 (lnB ls n (lev+1)) its=CA at *;by_cases hj0:j=0
   ·have HNX:Hq (l++[o]++C0++lnB ls n (lev+1)++x=l++[o]++zf3 (lnB ls n (lev+1)) (its.take (j+1))):=hq (by rw[HT.o,if_pos hj0];simp);have hlt2:C0.length+(lnB ls n (lev+1)).length+x.length<=CA.length:=by
     rw[if_pos hj0]at hlt;simp only[List.length_append,List.length_nil]at hlt;omega
    have hg: ¬(0<(j:Int)):=by omega
    have HU1:=hq (HU.o _ _ hp.o (by omega) (by have:=HLN.o;simp only[List.length_append,List.length_singleton];omega));have HX1:=hq (fun W hW=>HI1.o (l++[o]++C0++lnB ls n (lev+1)) W hW (by have:=HLN.o;simp only[List.length_append,List.length_singleton];omega));clear hj0 HT hlt hlt2 HI HI1 HB HU hp HE HS HP HLB HLN H1;go_wp2_with fail
    refine HU1.o.mono ?_;rintro e w2 ⟨rfl,h2⟩;have HX2:=hq (HX1.o w2 h2);clear HU1 HX1 h2;go_wp2_with fail
    refine HX2.o.mono ?_;rintro e w3 ⟨rfl,h3⟩;rw[HNX.o]at h3;have H3:=hq h3;clear HX2 h3 HNX;go_wp2_with fail
    go_roundw
    case rel=>exact⟨j+1,h,zb5 (by omega),H3⟩
    case measure=>(try simp[intOf]);omega
   ·have HNX:Hq (l++[o]++C0++[44]++lnB ls n (lev+1)++x=l++[o]++zf3 (lnB ls n (lev+1)) (its.take (j+1))):=hq (by rw[HT.o,if_neg hj0];simp);have hlt2:C0.length+1+(lnB ls n (lev+1)).length+x.length<=CA.length:=by
     rw[if_neg hj0]at hlt;simp only[List.length_append,List.length_singleton]at hlt;omega
    have hg:0<(j:Int):=by omega
    have HB1:=hq (HB.o _ 44 _ hp.o (by have:=HLN.o;simp only[List.length_append,List.length_singleton];omega));have HU1:=hq (fun W hW=>HU.o (l++[o]++C0++[44]) W hW (by omega) (by have:=HLN.o;simp only[List.length_append,List.length_singleton];omega));have HX1:=hq (fun W hW=>HI1.o (l++[o]++C0++[44]++lnB ls n (lev+1)) W hW (by have:=HLN.o;simp only[List.length_append,List.length_singleton];omega));clear HT hlt hlt2 HI HI1 HB HU hp HE HS HP HLB HLN H1;go_wp2_with fail
    refine HB1.o.mono ?_;rintro e w4 ⟨rfl,h4⟩;have HU2:=hq (HU1.o w4 h4);clear HB1 HU1 h4;go_wp2_with fail
    refine HU2.o.mono ?_;rintro e w2 ⟨rfl,h2⟩;have HX2:=hq (HX1.o w2 h2);clear HU2 HX1 h2;go_wp2_with fail
    refine HX2.o.mono ?_;rintro e w3 ⟨rfl,h3⟩;rw[HNX.o]at h3;have H3:=hq h3;clear HX2 h3 HNX;go_wp2_with fail
    go_roundw
    case rel=>exact⟨j+1,h,zb5 (by omega),H3⟩
    case measure=>(try simp[intOf]);omega
  ·have hz': ¬(j:Int)<(its.length:Int):=by omega
   have hT:its.take j=its:=List.take_of_length_le (by omega);rw[hT]at hp;clear HI HB HU H1 hT;by_cases he:its=[]
   ·have hg: ¬(0<(its.length:Int)):=by rw[he];simp
    have HNX:Hq (l++[o]++zf3 (lnB ls n (lev+1)) its++[c]=l++LB):=hq (by rw[HLB.o,if_pos he];simp);have HS1:=hq (HS.o _ [c] _ hp.o (by have:=HLN.o;simp only[List.length_append,List.length_singleton];omega));generalize zf3 (lnB ls n (lev+1)) its=CA at *;clear HS HLB HLN HE hp;go_wp2_with fail
    refine HS1.o.mono ?_;rintro e w2 ⟨⟨m',rfl⟩,h2⟩;have HV:=hq (HP.o _ w2 HNX.o h2);clear HS1 h2 HP HNX;go_wp2_with fail
    first
     |exact HV.o
     |(go_end0
       exact HV.o)
   ·have hg:0<(its.length:Int):=by
     have:=List.length_pos_iff.2 he;omega
    have HNX:Hq (l++[o]++zf3 (lnB ls n (lev+1)) its++lnB ls n lev++[c]=l++LB):=hq (by rw[HLB.o,if_neg he];simp);rw[if_neg he]at HLN;have HE1:=hq (HE.o _ _ hp.o (by omega) (by have:=HLN.o;simp only[List.length_append,List.length_singleton];omega));have HS1:=hq (fun W hW=>HS.o (l++[o]++zf3 (lnB ls n (lev+1)) its++lnB ls n lev) [c] W hW (by have:=HLN.o;simp only[List.length_append,List.length_singleton];omega));generalize zf3 (lnB ls n (lev+1)) its=CA at *;generalize lnB ls n lev=LV at *;clear HS HLB HLN HE hp;go_wp2_with fail
    refine HE1.o.mono ?_;rintro e w4 ⟨rfl,h4⟩;have HS2:=hq (HS1.o w4 h4);clear HE1 HS1 h4;go_wp2_with fail
    refine HS2.o.mono ?_;rintro e w2 ⟨⟨m',rfl⟩,h2⟩;have HV:=hq (HP.o _ w2 HNX.o h2);clear HS2 h2 HP HNX;go_wp2_with fail
    first
     |exact HV.o
     |(go_end0
       exact HV.o)
end Go.Proofs.YtkafjblfjdpdaaaGreatDoor
