/-
  WALKS: quote.part.
  WALKS: quote.scan, as End calls it.
  WALKS: quote.End.
  WALKS: quote.scan, as Unquote calls it: what each part stands for is written into a builder.
  WALKS: quote.Unquote, quote.End.
-/
import Derived.Test.YtkafjblfjdpdaaaGreatDoorUna
import Derived.Test.YtkafjblfjdpdaaaGreatDoorQuoteW
set_option maxHeartbeats 1000000
set_option maxRecDepth 1000000
namespace Go.Proofs.YtkafjblfjdpdaaaGreatDoor
open Go.RowKit
theorem part_any(t:ByteArray)(w:World)(hT:tabs w)(h0:0<t.size)(hs:t.size<=1099511627776):
 Calls Tryz.prog 150 #[.string t,.int .i32 ((Utf8.decode t 0).1:Int)] w (EscPost (zf2 t 0) w):=by
 have hdl:=decode_le t 0;by_cases h92:byt t 0=92
 ·have HN:Hq (zf2 t 0=escM t 0):=hq (by unfold zf2;rw[if_pos h92]);have e1:(((Utf8.decode t 0).1:Int)==92)=true:=by rw[(dec_is t 0 92 (by omega)).2 h92];rfl
  have HE:=hq (escape_any t w hs);generalize (Utf8.decode t 0).1=C at *;generalize escM t 0=o at *;clear h92;go_enter Tryz.func150,Tryz.ntmps150
  go_wp2_with fail
  refine HE.o.mono ?_;rintro e w1 ⟨rfl,hb⟩;go_wp2_with fail
  go_ret2
  exact⟨by rw[HN.o];rfl,hb⟩
 ·have e1:(((Utf8.decode t 0).1:Int)==92)=false:=beq_eq_false_iff_ne.2 (fun h=>h92 ((dec_is t 0 92 (by omega)).1 (by omega)));by_cases h32:byt t 0<32
  ·have HN:Hq (zf2 t 0=none):=hq (by unfold zf2;rw[if_neg h92,if_pos h32]);have e2:((Utf8.decode t 0).1:Int)<32:=by rw[zf4 t 0 (by omega)];simp only;omega
   generalize (Utf8.decode t 0).1=C at *;clear h92 h32;go_enter Tryz.func150,Tryz.ntmps150
   go_wp2_with fail
   go_ret2
   exact EscPost.no HN.o (Below.refl _ _)
  ·have e2: ¬((Utf8.decode t 0).1:Int)<32:=by
    by_cases hl:byt t 0<128
    ·rw[zf4 t 0 hl];simp only;omega
    ·have:=zv t 0 (by omega);omega
   have hnx:=zP4 t 0 w hT (by unfold maxLen;omega) (by omega);have hnt:nxt t 0=(((Utf8.decode t 0).1:Int),((Utf8.decode t 0).2:Int)):=nxt_in t 0 h0;rw[hnt]at hnx;have HP:Hq (zf2 t 0=if (Utf8.decode t 0).1=65533/\(Utf8.decode t 0).2=1 then none else some ((Utf8.decode t 0).1,(Utf8.decode t 0).2)):=hq (by
    unfold zf2;rw[if_neg h92,if_neg h32];by_cases hb:bad t 0
    ·rw[if_pos hb];exact(if_pos hb).symm
    ·rw[if_neg hb];exact(if_neg hb).symm)
   clear hnt h92 h32;generalize (Utf8.decode t 0).1=C at *;generalize (Utf8.decode t 0).2=K at *;generalize zf2 t 0=R at *;have HNX:=hq hnx;clear hnx;by_cases hC:C=65533
   ·have e3:((C:Int)==65533)=true:=by rw[hC];rfl
    by_cases hK:K=1
    ·have HN:=hq (HP.o.trans (if_pos ⟨hC,hK⟩));have e4:((K:Int)==1)=true:=by rw[hK];rfl
     clear HP hC hK;go_enter Tryz.func150,Tryz.ntmps150
     go_wp2_with fail
     refine HNX.o.mono ?_;rintro e w1 ⟨rfl,hb⟩;go_wp2_with fail
     go_ret2
     exact EscPost.no HN.o hb
    ·have HN:=hq (HP.o.trans (if_neg (fun h=>hK h.2)));have e4:((K:Int)==1)=false:=beq_eq_false_iff_ne.2 (by omega);clear HP hC hK;go_enter Tryz.func150,Tryz.ntmps150
     go_wp2_with fail
     refine HNX.o.mono ?_;rintro e w1 ⟨rfl,hb⟩;go_wp2_with fail
     go_ret2
     exact EscPost.mk HN.o rfl rfl hb
   ·have HN:=hq (HP.o.trans (if_neg (fun h=>hC h.1)));have e3:((C:Int)==65533)=false:=beq_eq_false_iff_ne.2 (by omega);clear HP hC;go_enter Tryz.func150,Tryz.ntmps150
    go_wp2_with fail
    refine HNX.o.mono ?_;rintro e w1 ⟨rfl,hb⟩;go_wp2_with fail
    go_ret2
    exact EscPost.mk HN.o rfl rfl hb
def zR2(r:Nat×Int)(w:World)(e:Ending)(w':World):Prop:=e= .returned (.tuple #[.int .i64 (r.1:Int),.int .i64 r.2])/\Below w.heap.size w w'
def zw6(s:ByteArray)(f p:Nat):Nat×Int:=((zc5 s f p []).1,(zc5 s f p []).2.1)
theorem zA(s:ByteArray): ∀(f p:Nat) (acc:List Nat),(zc5 s f p acc).1=(zc5 s f p []).1/\(zc5 s f p acc).2.1=(zc5 s f p []).2.1/\(zc5 s f p acc).2.2=acc++(zc5 s f p []).2.2
 |0,p,acc=>⟨rfl,rfl,by simp[zc5]⟩
 |f+1,p,acc=>by
  unfold zc5;by_cases h:p<s.size
  ·rw[if_pos h,if_pos h];by_cases h34:byt s p=34
   ·rw[if_pos h34,if_pos h34];exact⟨rfl,rfl,by simp⟩
   ·rw[if_neg h34,if_neg h34];cases zf2 s p with
    |none=>exact⟨rfl,rfl,by simp⟩
    |some x=>
     obtain⟨a1,a2,a3⟩:=zA s f (p+x.2) (acc++[x.1]);obtain⟨b1,b2,b3⟩:=zA s f (p+x.2) ([]++[x.1]);simp only;exact⟨a1.trans b1.symm,a2.trans b2.symm,by rw[a3,b3];simp⟩
  ·rw[if_neg h,if_neg h];exact⟨rfl,rfl,by simp⟩
theorem end1_any(r:Nat)(w:World):Calls Tryz.prog 183 #[.int .i32 (r:Int)] w fun e w'=>e= .returned (.tuple #[])/\w=w':=by
 go_enter Tryz.func183,Tryz.ntmps183
 go_wp2_with fail
 go_end0
 exact⟨rfl,rfl⟩
theorem scan_end(s:ByteArray)(a:Nat)(w:World)(hT:tabs w)(ha:a<=s.size)(hs:s.size<=1099511627776):
 Calls Tryz.prog 110 #[.string s,.int .i64 (a:Int),.func (.func 183) #[] #[]] w (zR2 ((zb7 s a).1,(zb7 s a).2.1) w):=by
 have HT:=hq hT;clear hT;by_cases hq0:a<s.size/\byt s a=34
 ·have HM:Hq ((((zb7 s a).1,(zb7 s a).2.1):Nat×Int)=zw6 s s.size (a+1)):=hq (by unfold zb7 zw6;rw[if_pos hq0]);obtain⟨hlt,h34⟩:=hq0;have y0:((s[a]'hlt).toNat:Int)=(byt s a:Int):=by rw[zb6 s a hlt]
  have e1:((byt s a:Int) !=34)=false:=by rw[h34];rfl
  have e0:((a:Int)==(s.size:Int))=false:=beq_eq_false_iff_ne.2 (by omega);generalize (((zb7 s a).1,(zb7 s a).2.1):Nat×Int)=R at *;generalize byt s a=c at *;clear h34;go_enter Tryz.func110,Tryz.ntmps110
  go_wp2_with fail
  have hus:(s.extract (a+1) s.size).size=s.size-(a+1):=by rw[ByteArray.size_extract];omega
  have hud: ∀p,p<s.size-(a+1)->Utf8.decode (s.extract (a+1) s.size) p=Utf8.decode s (a+1+p):=fun p hp=>zx0 s (a+1) s.size p (Nat.le_refl _) (.inl rfl) (by omega)
  generalize s.extract (a+1) s.size=u at *;have HUD:=hq hud;have hu1:u.size<=s.size-(a+1):=by omega
  have hu2:s.size-(a+1)<=u.size:=by omega
  clear hus hud
  go_loopw [8] (fun nx wr=> ∃(pos k f:Nat),pos<=u.size/\nx= .int .i64 k/\a+1+pos<=k/\k<=s.size/\Hq (∀q,a+1+pos<=q->q<k->byt s q<128)/\Hq (R=zw6 s f k)/\s.size<=k+f/\wr.heap[w.heap.size]?=some (.stringIter u pos)/\Below w.heap.size w wr)
   (fun _ wr=>u.size-wr.iterPos w.heap.size)
  case atStart=>exact⟨0,a+1,s.size,by omega,rfl,by omega,by omega,hq (fun q h1 h2=>by omega),HM,by omega,World.iter_heap w u 0,(Below.refl _ _).alloc (Nat.le_refl _) _⟩
  case round=>
   obtain⟨pos,k,f,hps,rfl,hk1,hk2,hasc,hR,hf,hit,hb⟩:=hrel;clear HM;have hlt2:w.heap.size<wr.heap.size:=(Array.getElem?_eq_some_iff.1 hit).1;by_cases hp:pos<u.size
   ·have hnx: ∀ty,(Instr.next (.pointer (some ⟨w.heap.size,0,none⟩)) true ty).run Tryz.prog wr=_:=fun ty=>Lib.run_next_any_at wr w.heap.size u pos ty hit hp
    have hit2:=Lib.iterAt_heap wr w.heap.size u pos (pos+(Utf8.decode u pos).2) hit;have hb2:=Lib.below_iterAt hb (k:=w.heap.size) (Nat.le_refl _) u (pos+(Utf8.decode u pos).2);have hdl:=decode_le u pos;have hdc:=HUD.o pos (by omega);by_cases hin:a+1+pos<k
    ·have hw1:(Utf8.decode u pos).2=1:=by rw[hdc,zf4 s _ (hasc.o _ (Nat.le_refl _) hin)]
     have HIT:Hq ((wr.iterAt w.heap.size u (pos+(Utf8.decode u pos).2)).heap[w.heap.size]?=some (.stringIter u (pos+1))):=hq (by rw[hw1]at hit2 ⊢;exact hit2);have HPOS:Hq ((wr.iterAt w.heap.size u (pos+(Utf8.decode u pos).2)).iterPos w.heap.size=pos+1):=hq (by simp only[World.iterPos,HIT.o]);have HPOS0:Hq (wr.iterPos w.heap.size=pos):=hq (by simp only[World.iterPos,hit]);clear hw1 hit2 hit hdc;go_wp2_with fail
     go_roundw
     case rel=>exact⟨pos+1,k,f,by omega,rfl,by omega,hk2,hq (fun q h1 h2=>hasc.o q (by omega) h2),hR,hf,HIT.o,hb2⟩
     case measure=>rw[HPOS.o,HPOS0.o];omega
    ·obtain rfl:k=a+1+pos:=by omega
     have hks:a+1+pos<s.size:=by omega
     obtain⟨f,rfl⟩: ∃g,f=g+1:=⟨f-1,by omega⟩;have hC34:=dec_is s (a+1+pos) 34 (by omega);rw[←hdc]at hC34;have hpart:=part_any (s.extract (a+1+pos) s.size);have hd0:Utf8.decode (s.extract (a+1+pos) s.size) 0=Utf8.decode u pos:=by
      rw[hdc];have:=zx0 s (a+1+pos) s.size 0 (Nat.le_refl _) (.inl rfl) (by omega);simpa using this
     rw[hd0,partM_sub s _ hks]at hpart;have hxs:(s.extract (a+1+pos) s.size).size=s.size-(a+1+pos):=by rw[ByteArray.size_extract];omega
     have HPT:Hq (∀W,tabs W->Calls Tryz.prog 150 #[.string (s.extract (a+1+pos) s.size),.int .i32 ((Utf8.decode u pos).1:Int)] W (EscPost (zf2 s (a+1+pos)) W)):=hq (fun W hW=>hpart W hW (by omega) (by omega));have HR2:Hq (R=if byt s (a+1+pos)=34 then(a+1+pos+1,0) else match zf2 s (a+1+pos) with|none=>(a+1+pos,2)|some x=>zw6 s f (a+1+pos+x.2)):=hq (by
      rw[hR.o];unfold zw6;rw[zc5,if_pos hks];by_cases h34:byt s (a+1+pos)=34
      ·rw[if_pos h34,if_pos h34]
      ·rw[if_neg h34,if_neg h34];cases zf2 s (a+1+pos) with
       |none=>rfl
       |some x=>
        obtain⟨q1,q2,_⟩:=zA s f (a+1+pos+x.2) ([]++[x.1]);simp only;rw[q1,q2])
     have HBD:=hq (fun r n=> @zn3 s (a+1+pos) r n hks);have HAS:Hq (∀r n,zf2 s (a+1+pos)=some (r,n)->(n=(Utf8.decode u pos).2)\/(1<n/\(Utf8.decode u pos).2=1/\ ∀q,a+1+pos+1<=q->q<a+1+pos+n->byt s q<128)):=hq (fun r n h=>by
      unfold zf2 at h;split at h
      ·rename_i h92;right;have h1:=zQ3 h;refine⟨by omega,by rw[hdc,zf4 s _ (by omega)],fun q q1 q2=> ?_⟩;have:=zM6 h92 h (q-(a+1+pos)) (by omega);rwa [show a+1+pos+(q-(a+1+pos))=q by omega]at this
      ·split at h
       ·cases h
       ·split at h
        ·cases h
        ·injection h with h;left;rw[hdc,h])
     have hwd:=zp8 u pos hp;unfold wd at hwd;have HTB:=hq (zi5 HT.o hb2);have HIT:=hq hit2;have HPOS0:Hq (wr.iterPos w.heap.size=pos):=hq (by simp only[World.iterPos,hit]);clear hpart hd0 hxs hR hdc hasc hit hit2;by_cases h34:byt s (a+1+pos)=34
     ·have HN:=hq (HR2.o.trans (if_pos h34));have e34:(((Utf8.decode u pos).1:Int)==34)=true:=by rw[hC34.2 h34];rfl
      clear HR2 h34 hC34 HAS HBD HPT;go_wp2_with fail
      go_ret2
      exact⟨by rw[HN.o];rfl,hb2⟩
     ·have HR3:=hq (HR2.o.trans (if_neg h34));have e34:(((Utf8.decode u pos).1:Int)==34)=false:=beq_eq_false_iff_ne.2 (fun h=>h34 (hC34.1 (by omega)));clear HR2 h34 hC34;go_wp2_with fail
      refine(HPT.o _ HTB.o).mono ?_;generalize zf2 s (a+1+pos)=o at *;cases o with
      |none=>
       rintro e w2 ⟨rfl,hb3⟩;have hb4:=za hb2 hb3;have HN:Hq (R=(a+1+pos,2)):=hq HR3.o;clear HR3 HAS HBD HPT;go_wp2_with fail
       go_ret2
       exact⟨by rw[HN.o];rfl,hb4⟩
      |some x=>
       obtain⟨r,n⟩:=x;rintro e w2 ⟨rfl,hb3⟩;simp only[Option.getD_some];have hb4:=za hb2 hb3;obtain⟨p1,p2,p3,p4,_⟩:=HBD.o r n rfl;have HN:Hq (R=zw6 s f (a+1+pos+n)):=hq HR3.o;have hit3:w2.heap[w.heap.size]?=some (.stringIter u (pos+(Utf8.decode u pos).2)):=(hb3.block w.heap.size (by rw[Lib.iterAt_size];exact hlt2)).trans HIT.o;have HIT3:=hq hit3;have HPOS3:Hq (w2.iterPos w.heap.size=pos+(Utf8.decode u pos).2):=hq (by simp only[World.iterPos,hit3]);have hn0:((n:Int)==0)=false:=beq_eq_false_iff_ne.2 (by omega);have HAS2:=hq (HAS.o r n rfl);have hwp:=zi4 u pos;unfold wd at hwp;clear HR3 HAS HBD HPT hit3;go_wp2_with fail
       refine(end1_any r _).mono ?_;rintro e w3 ⟨rfl,hw3⟩;obtain rfl:=hw3;have hnw:a+1+(pos+(Utf8.decode u pos).2)<=a+1+pos+n:=by rcases HAS2.o with h|h<;>omega
       have HASC:Hq (∀q,a+1+(pos+(Utf8.decode u pos).2)<=q->q<a+1+pos+n->byt s q<128):=hq (fun q q1 q2=>by
        rcases HAS2.o with h|⟨_,h1,h2⟩
        ·omega
        ·exact h2 q (by omega) q2)
       go_wp2_with fail
       go_roundw
       case rel=>exact⟨pos+(Utf8.decode u pos).2,a+1+pos+n,f,hwd,zb5 (by omega),hnw,p4,HASC,HN,by omega,HIT3.o,hb4⟩
       case measure=>rw[HPOS3.o,HPOS0.o];omega
   ·have hnx: ∀ty,(Instr.next (.pointer (some ⟨w.heap.size,0,none⟩)) true ty).run Tryz.prog wr=_:=fun ty=>Lib.run_next_end_at wr w.heap.size u pos ty hit hp
    have hk3:k=s.size:=by omega
    have HN:Hq (R=(s.size,2)):=hq (by
     rw[hR.o,hk3];unfold zw6;cases f with
     |zero=>rfl
     |succ f=>rw[zc5,if_neg (Nat.lt_irrefl _)])
    clear hR hasc;go_wp2_with fail
    go_ret2
    exact⟨by rw[HN.o];rfl,hb⟩
 ·have HM:Hq ((((zb7 s a).1,(zb7 s a).2.1):Nat×Int)=(a,2)):=hq (by unfold zb7;rw[if_neg hq0]);generalize (((zb7 s a).1,(zb7 s a).2.1):Nat×Int)=R at *;by_cases hlt:a<s.size
  ·have y0:((s[a]'hlt).toNat:Int)=(byt s a:Int):=by rw[zb6 s a hlt]
   have e1:((byt s a:Int) !=34)=true:=bne_iff_ne.2 (fun h=>hq0 ⟨hlt,by omega⟩);generalize byt s a=c at *;clear hq0;go_enter Tryz.func110,Tryz.ntmps110
   go_wp2_with fail
   go_ret2
   exact⟨by rw[HM.o];rfl,Below.refl _ _⟩
  ·obtain rfl:a=s.size:=by omega
   clear hq0;go_enter Tryz.func110,Tryz.ntmps110
   go_wp2_with fail
   go_ret2
   exact⟨by rw[HM.o];rfl,Below.refl _ _⟩
def endM(s:ByteArray)(a:Int):Nat×Int:=if a<0\/(s.size:Int)<a then(0,2) else((zb7 s a.toNat).1,(zb7 s a.toNat).2.1)
theorem end_any(s:ByteArray)(a:Int)(w:World)(hT:tabs w)(hs:s.size<=1099511627776)(ha:-9223372036854775808<=a/\a<=9223372036854775807):
 Calls Tryz.prog 147 #[.string s,.int .i64 a] w (zR2 (endM s a) w):=by
 obtain⟨ha1,ha2⟩:=ha;by_cases h0:a<0
 ·have HN:Hq (endM s a=(0,2)):=hq (by unfold endM;rw[if_pos (.inl h0)]);generalize endM s a=R at *;go_enter Tryz.func147,Tryz.ntmps147
  go_wp2_with fail
  go_ret2
  exact⟨by rw[HN.o];rfl,Below.refl _ _⟩
 ·by_cases h1:(s.size:Int)<a
  ·have HN:Hq (endM s a=(0,2)):=hq (by unfold endM;rw[if_pos (.inr h1)]);generalize endM s a=R at *;go_enter Tryz.func147,Tryz.ntmps147
   go_wp2_with fail
   go_ret2
   exact⟨by rw[HN.o];rfl,Below.refl _ _⟩
  ·obtain ⟨k,rfl⟩:=Int.eq_ofNat_of_zero_le (Int.not_lt.1 h0);have HN:Hq (endM s k=((zb7 s k).1,(zb7 s k).2.1)):=hq (by unfold endM;rw[if_neg (by omega)];rfl);have hks:k<=s.size:=by omega
   have HSC:=hq (scan_end s k w hT hks hs);generalize endM s k=R at *;generalize zb7 s k=x at *;clear hT h0 h1;have h0: ¬(k:Int)<0:=by omega
   have h1:(k:Int)<=(s.size:Int):=by omega
   go_enter Tryz.func147,Tryz.ntmps147
   go_wp2_with fail
   refine HSC.o.mono ?_;rintro e w1 ⟨rfl,hb1⟩;clear HSC;go_wp2_with fail
   go_ret2
   exact⟨by rw[HN.o];rfl,hb1⟩
theorem unq1_any(B b:Nat)(l:Bs)(r:Nat)(w:World)(hr:r<=1114111)(h:Bld B b l w)(hl:l.length+4<=140737488355328)(hB:B<=w.heap.size):
 Calls Tryz.prog 111 #[.int .i32 (r:Int),.pointer (some ⟨b,0,none⟩)] w (zv2 B b (l++encB r) w):=by
 have HW:=hq (wrune B b l (encB r) (r:Int) w (by omega) (by omega) (zv9 r) h hl hB);clear h;go_enter Tryz.func111,Tryz.ntmps111
 go_wp2_with fail
 refine HW.o.mono ?_;rintro e w1 ⟨⟨n,rfl⟩,h2⟩;go_wp2_with fail
 go_end0
 exact⟨rfl,h2⟩
def ScanPostB(B b:Nat)(r:Nat×Int×List Nat)(w:World)(e:Ending)(w':World):Prop:=e= .returned (.tuple #[.int .i64 (r.1:Int),.int .i64 r.2.1])/\Bld B b (zd r.2.2) w'/\Below B w w'
theorem scan_unq(s:ByteArray)(a:Nat)(B b:Nat)(w:World)(hT: ∀W,Below B w W->tabs W)(hbd:Bld B b [] w)(ha:a<=s.size)(hs:s.size<=1099511627776):
 Calls Tryz.prog 110 #[.string s,.int .i64 (a:Int),.func (.func 111) #[] #[.pointer (some ⟨b,0,none⟩)]] w (ScanPostB B b (zb7 s a) w):=by
 have HT:=hq hT;have HBD:=hq hbd;obtain⟨hB0,hb0⟩:=hbd.lt;clear hT hbd;by_cases hq0:a<s.size/\byt s a=34
 ·have HM:Hq (zb7 s a=zc5 s s.size (a+1) []):=hq (by unfold zb7;rw[if_pos hq0]);obtain⟨hlt,h34⟩:=hq0;have y0:((s[a]'hlt).toNat:Int)=(byt s a:Int):=by rw[zb6 s a hlt]
  have e1:((byt s a:Int) !=34)=false:=by rw[h34];rfl
  have e0:((a:Int)==(s.size:Int))=false:=beq_eq_false_iff_ne.2 (by omega);generalize zb7 s a=R at *;generalize byt s a=c at *;clear h34;go_enter Tryz.func110,Tryz.ntmps110
  go_wp2_with fail
  have hus:(s.extract (a+1) s.size).size=s.size-(a+1):=by rw[ByteArray.size_extract];omega
  have hud: ∀p,p<s.size-(a+1)->Utf8.decode (s.extract (a+1) s.size) p=Utf8.decode s (a+1+p):=fun p hp=>zx0 s (a+1) s.size p (Nat.le_refl _) (.inl rfl) (by omega)
  generalize s.extract (a+1) s.size=u at *;have HUD:=hq hud;have hu1:u.size<=s.size-(a+1):=by omega
  have hu2:s.size-(a+1)<=u.size:=by omega
  clear hus hud
  go_loopw [8] (fun nx wr=> ∃(pos k f:Nat) (acc:List Nat),pos<=u.size/\nx= .int .i64 k/\a+1+pos<=k/\k<=s.size/\Hq (∀q,a+1+pos<=q->q<k->byt s q<128)/\Hq (R=zc5 s f k acc)/\s.size<=k+f/\wr.heap[w.heap.size]?=some (.stringIter u pos)/\Below B w wr/\Hq (Bld B b (zd acc) wr)/\(zd acc).length<=4*k)
   (fun _ wr=>u.size-wr.iterPos w.heap.size)
  case atStart=>exact⟨0,a+1,s.size,[],by omega,rfl,by omega,by omega,hq (fun q h1 h2=>by omega),HM,by omega,World.iter_heap w u 0,(Below.refl _ _).alloc (by omega) _,hq (Lib.IsBuilderF.alloc HBD.o _),Nat.zero_le _⟩
  case round=>
   obtain⟨pos,k,f,acc,hps,rfl,hk1,hk2,hasc,hR,hf,hit,hb,hbd,hln⟩:=hrel;clear HM HBD;have hlt2:w.heap.size<wr.heap.size:=(Array.getElem?_eq_some_iff.1 hit).1;by_cases hp:pos<u.size
   ·have hnx: ∀ty,(Instr.next (.pointer (some ⟨w.heap.size,0,none⟩)) true ty).run Tryz.prog wr=_:=fun ty=>Lib.run_next_any_at wr w.heap.size u pos ty hit hp
    have hit2:=Lib.iterAt_heap wr w.heap.size u pos (pos+(Utf8.decode u pos).2) hit;have hb2:=Lib.below_iterAt hb (k:=w.heap.size) (by omega) u (pos+(Utf8.decode u pos).2);have HBI:Hq (Bld B b (zd acc) (wr.iterAt w.heap.size u (pos+(Utf8.decode u pos).2))):=hq (Lib.IsBuilderF.iterAt hbd.o hit _);have hdl:=decode_le u pos;have hdc:=HUD.o pos (by omega);by_cases hin:a+1+pos<k
    ·have hw1:(Utf8.decode u pos).2=1:=by rw[hdc,zf4 s _ (hasc.o _ (Nat.le_refl _) hin)]
     have HIT:Hq ((wr.iterAt w.heap.size u (pos+(Utf8.decode u pos).2)).heap[w.heap.size]?=some (.stringIter u (pos+1))):=hq (by rw[hw1]at hit2 ⊢;exact hit2);have HPOS:Hq ((wr.iterAt w.heap.size u (pos+(Utf8.decode u pos).2)).iterPos w.heap.size=pos+1):=hq (by simp only[World.iterPos,HIT.o]);have HPOS0:Hq (wr.iterPos w.heap.size=pos):=hq (by simp only[World.iterPos,hit]);clear hw1 hit2 hit hdc hbd;go_wp2_with fail
     go_roundw
     case rel=>exact⟨pos+1,k,f,acc,by omega,rfl,by omega,hk2,hq (fun q h1 h2=>hasc.o q (by omega) h2),hR,hf,HIT.o,hb2,HBI,hln⟩
     case measure=>rw[HPOS.o,HPOS0.o];omega
    ·obtain rfl:k=a+1+pos:=by omega
     have hks:a+1+pos<s.size:=by omega
     obtain⟨f,rfl⟩: ∃g,f=g+1:=⟨f-1,by omega⟩;have hC34:=dec_is s (a+1+pos) 34 (by omega);rw[←hdc]at hC34;have hpart:=part_any (s.extract (a+1+pos) s.size);have hd0:Utf8.decode (s.extract (a+1+pos) s.size) 0=Utf8.decode u pos:=by
      rw[hdc];have:=zx0 s (a+1+pos) s.size 0 (Nat.le_refl _) (.inl rfl) (by omega);simpa using this
     rw[hd0,partM_sub s _ hks]at hpart;have hxs:(s.extract (a+1+pos) s.size).size=s.size-(a+1+pos):=by rw[ByteArray.size_extract];omega
     have HPT:Hq (∀W,tabs W->Calls Tryz.prog 150 #[.string (s.extract (a+1+pos) s.size),.int .i32 ((Utf8.decode u pos).1:Int)] W (EscPost (zf2 s (a+1+pos)) W)):=hq (fun W hW=>hpart W hW (by omega) (by omega));have HR2:Hq (R=if byt s (a+1+pos)=34 then(a+1+pos+1,0,acc) else match zf2 s (a+1+pos) with|none=>(a+1+pos,2,acc)|some x=>zc5 s f (a+1+pos+x.2) (acc++[x.1])):=hq (by
      rw[hR.o,zc5,if_pos hks];by_cases h34:byt s (a+1+pos)=34
      ·rw[if_pos h34,if_pos h34]
      ·rw[if_neg h34,if_neg h34];cases zf2 s (a+1+pos)<;>rfl)
     have HPB:=hq (fun r n=> @zn3 s (a+1+pos) r n hks);have HAS:Hq (∀r n,zf2 s (a+1+pos)=some (r,n)->(n=(Utf8.decode u pos).2)\/(1<n/\(Utf8.decode u pos).2=1/\ ∀q,a+1+pos+1<=q->q<a+1+pos+n->byt s q<128)):=hq (fun r n h=>by
      unfold zf2 at h;split at h
      ·rename_i h92;right;have h1:=zQ3 h;refine⟨by omega,by rw[hdc,zf4 s _ (by omega)],fun q q1 q2=> ?_⟩;have:=zM6 h92 h (q-(a+1+pos)) (by omega);rwa [show a+1+pos+(q-(a+1+pos))=q by omega]at this
      ·split at h
       ·cases h
       ·split at h
        ·cases h
        ·injection h with h;left;rw[hdc,h])
     have hwd:=zp8 u pos hp;unfold wd at hwd;have HTB:=hq (HT.o _ hb2);have HIT:=hq hit2;have HPOS0:Hq (wr.iterPos w.heap.size=pos):=hq (by simp only[World.iterPos,hit]);clear hpart hd0 hxs hR hdc hasc hit hit2 hbd;by_cases h34:byt s (a+1+pos)=34
     ·have HN:=hq (HR2.o.trans (if_pos h34));have e34:(((Utf8.decode u pos).1:Int)==34)=true:=by rw[hC34.2 h34];rfl
      clear HR2 h34 hC34 HAS HPB HPT;go_wp2_with fail
      go_ret2
      exact⟨by rw[HN.o];rfl,by rw[HN.o];exact HBI.o,hb2⟩
     ·have HR3:=hq (HR2.o.trans (if_neg h34));have e34:(((Utf8.decode u pos).1:Int)==34)=false:=beq_eq_false_iff_ne.2 (fun h=>h34 (hC34.1 (by omega)));clear HR2 h34 hC34;go_wp2_with fail
      refine(HPT.o _ HTB.o).mono ?_;generalize zf2 s (a+1+pos)=o at *;cases o with
      |none=>
       rintro e w2 ⟨rfl,hb3⟩;have hb4:=hb2.trans (hb3.mono (by rw[Lib.iterAt_size];omega));have HB3:Hq (Bld B b (zd acc) w2):=hq (HBI.o.below hb3);have HN:Hq (R=(a+1+pos,2,acc)):=hq HR3.o;clear HR3 HAS HPB HPT;go_wp2_with fail
       go_ret2
       exact⟨by rw[HN.o];rfl,by rw[HN.o];exact HB3.o,hb4⟩
      |some x=>
       obtain⟨r,n⟩:=x;rintro e w2 ⟨rfl,hb3⟩;simp only[Option.getD_some];have hb4:=hb2.trans (hb3.mono (by rw[Lib.iterAt_size];omega));have HB3:Hq (Bld B b (zd acc) w2):=hq (HBI.o.below hb3);obtain⟨p1,p2,p3,p4,_⟩:=HPB.o r n rfl;have HN:Hq (R=zc5 s f (a+1+pos+n) (acc++[r])):=hq HR3.o;have hit3:w2.heap[w.heap.size]?=some (.stringIter u (pos+(Utf8.decode u pos).2)):=(hb3.block w.heap.size (by rw[Lib.iterAt_size];exact hlt2)).trans HIT.o;have HIT3:=hq hit3;have HPOS3:Hq (w2.iterPos w.heap.size=pos+(Utf8.decode u pos).2):=hq (by simp only[World.iterPos,hit3]);have hn0:((n:Int)==0)=false:=beq_eq_false_iff_ne.2 (by omega);have HAS2:=hq (HAS.o r n rfl);have hwp:=zi4 u pos;unfold wd at hwp;have HU1:=hq (unq1_any B b (zd acc) r w2 p1 HB3.o (by omega) (by have:=hb4.size;omega));clear HR3 HAS HPB HPT hit3;go_wp2_with fail
       refine(HU1.o).mono ?_;rintro e w3 ⟨rfl,hw3⟩;have HB5:Hq (Bld B b (zd (acc++[r])) w3):=hq (by rw[zm];exact hw3.1);have hb5:=hb4.trans hw3.2.1;have hit5:=Lib.OthersKept.iter hw3.2.2 HIT3.o (by omega);have HIT5:=hq hit5;have HPOS5:Hq (w3.iterPos w.heap.size=pos+(Utf8.decode u pos).2):=hq (by simp only[World.iterPos,hit5]);have hln5:(zd (acc++[r])).length<=4*(a+1+pos+n):=by
        have:=zD7 r;rw[zm,List.length_append];omega
       clear hw3 hit5 HU1;have hnw:a+1+(pos+(Utf8.decode u pos).2)<=a+1+pos+n:=by rcases HAS2.o with h|h<;>omega
       have HASC:Hq (∀q,a+1+(pos+(Utf8.decode u pos).2)<=q->q<a+1+pos+n->byt s q<128):=hq (fun q q1 q2=>by
        rcases HAS2.o with h|⟨_,h1,h2⟩
        ·omega
        ·exact h2 q (by omega) q2)
       go_wp2_with fail
       go_roundw
       case rel=>exact⟨pos+(Utf8.decode u pos).2,a+1+pos+n,f,acc++[r],hwd,zb5 (by omega),hnw,p4,HASC,HN,by omega,HIT5.o,hb5,HB5,hln5⟩
       case measure=>rw[HPOS5.o,HPOS0.o];omega
   ·have hnx: ∀ty,(Instr.next (.pointer (some ⟨w.heap.size,0,none⟩)) true ty).run Tryz.prog wr=_:=fun ty=>Lib.run_next_end_at wr w.heap.size u pos ty hit hp
    have hk3:k=s.size:=by omega
    have HN:Hq (R=(s.size,2,acc)):=hq (by
     rw[hR.o,hk3];cases f with
     |zero=>rfl
     |succ f=>rw[zc5,if_neg (Nat.lt_irrefl _)])
    clear hR hasc;go_wp2_with fail
    go_ret2
    exact⟨by rw[HN.o];rfl,by rw[HN.o];exact hbd.o,hb⟩
 ·have HM:Hq (zb7 s a=(a,2,[])):=hq (by unfold zb7;rw[if_neg hq0]);generalize zb7 s a=R at *;by_cases hlt:a<s.size
  ·have y0:((s[a]'hlt).toNat:Int)=(byt s a:Int):=by rw[zb6 s a hlt]
   have e1:((byt s a:Int) !=34)=true:=bne_iff_ne.2 (fun h=>hq0 ⟨hlt,by omega⟩);generalize byt s a=c at *;clear hq0;go_enter Tryz.func110,Tryz.ntmps110
   go_wp2_with fail
   go_ret2
   exact⟨by rw[HM.o];rfl,by rw[HM.o];exact HBD.o,Below.refl _ _⟩
  ·obtain rfl:a=s.size:=by omega
   clear hq0;go_enter Tryz.func110,Tryz.ntmps110
   go_wp2_with fail
   go_ret2
   exact⟨by rw[HM.o];rfl,by rw[HM.o];exact HBD.o,Below.refl _ _⟩
theorem zr(s:ByteArray)(w:World)(hT:tabs w)(hs:s.size<=1099511627776):
 Calls Tryz.prog 68 #[.string s] w (zt8 (zb4 s) w):=by
 have hbd:Bld w.heap.size w.heap.size [] (w.alloc (.cells #[.pointer none,.slice none 0 0] 98)):=Lib.IsBuilderF.of (Lib.fresh_isBuilder _ _ _);have hSC:=scan_unq s 0 w.heap.size w.heap.size _ (fun W hW=>zi5 hT ((za0 w _).trans hW)) hbd (Nat.zero_le _) hs;have hN:zb4 s=if (zb7 s 0).2.1≠0 then([],(zb7 s 0).1,(zb7 s 0).2.1) else if (zb7 s 0).1≠s.size then([],(zb7 s 0).1,2) else(zd (zb7 s 0).2.2,(zb7 s 0).1,0):=rfl
 generalize zb4 s=U at *;generalize zb7 s 0=x at *;obtain⟨xp,xe,xr⟩:=x;have HSC:=hq hSC;have HN:=hq hN;clear hT hbd hSC hN;have hmf: ∀fn first cap w,(Instr.makeFunc fn first cap).run Tryz.prog w= .ok (.func fn first cap) w:=fun _ _ _ _=>rfl
 by_cases he:xe=0
 ·have e1:(xe !=0)=false:=by rw[he];rfl
  by_cases hp:xp=s.size
  ·have e2:((xp:Int) !=(s.size:Int))=false:=by rw[hp];exact bne_self_eq_false _
   have HN2:=hq (HN.o.trans ((if_neg (fun h=>h he)).trans (if_neg (fun h=>h hp))));clear he hp HN;go_enter Tryz.func68,Tryz.ntmps68
   go_wp2_with fail
   refine HSC.o.mono ?_;rintro e w1 ⟨rfl,hb1,hb2⟩;have hb3:Below w.heap.size w w1:=(za0 w _).trans hb2;have hS:=Tryz.Builder_String_any_k w.heap.size w.heap.size _ w1 hb1 (by have:=hb3.size;omega);have HS:=hq hS;clear hS HSC hb1 hb2;go_wp2_with fail
   refine HS.o.mono ?_;rintro e w4 ⟨rfl,_,h5,_⟩;go_wp2_with fail
   go_ret3
   exact⟨by rw[HN2.o];rfl,hb3.trans h5⟩
  ·have e2:((xp:Int) !=(s.size:Int))=true:=bne_iff_ne.2 (by omega);have HN2:=hq (HN.o.trans ((if_neg (fun h=>h he)).trans (if_pos hp)));clear he hp HN;go_enter Tryz.func68,Tryz.ntmps68
   go_wp2_with fail
   refine HSC.o.mono ?_;rintro e w1 ⟨rfl,hb1,hb2⟩;have hb3:Below w.heap.size w w1:=(za0 w _).trans hb2;clear HSC hb1 hb2;go_wp2_with fail
   go_ret3
   exact⟨by rw[HN2.o];rfl,hb3⟩
 ·have e1:(xe !=0)=true:=bne_iff_ne.2 he;have HN2:=hq (HN.o.trans (if_pos he));clear he HN;go_enter Tryz.func68,Tryz.ntmps68
  go_wp2_with fail
  refine HSC.o.mono ?_;rintro e w1 ⟨rfl,hb1,hb2⟩;have hb3:Below w.heap.size w w1:=(za0 w _).trans hb2;clear HSC hb1 hb2;go_wp2_with fail
  go_ret3
  exact⟨by rw[HN2.o];rfl,hb3⟩
end Go.Proofs.YtkafjblfjdpdaaaGreatDoor
