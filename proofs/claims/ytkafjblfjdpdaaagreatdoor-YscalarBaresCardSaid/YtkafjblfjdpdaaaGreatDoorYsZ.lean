/-
  WALK: the law YscalarBack.
  PLAIN MATHEMATICS: what is read in a line is in range.
-/
import Derived.Test.YtkafjblfjdpdaaaGreatDoorYsP
import Derived.Test.YtkafjblfjdpdaaaGreatDoorPrU
import Derived.Test.YtkafjblfjdpdaaaGreatDoorRdi
namespace Go.Proofs.YtkafjblfjdpdaaaGreatDoor
open Go.RowKit
theorem rdOf_one {l:Bs} {u v:Vl} {a b:Int} (h1:RdOf l u a)(h2:RdOf l v b):u=v∧a=b:=by
 cases l with
 |nil=>exact⟨h1.1.trans h2.1.symm,h1.2.trans h2.2.symm⟩
 |cons c r=>
  unfold RdOf at h1 h2
  simp only at h1 h2
  split at h1
  ·rename_i hc
   rw[if_pos hc]at h2
   exact⟨h1.2.trans h2.2.symm,h1.1.trans h2.1.symm⟩
  ·rename_i hc
   rw[if_neg hc]at h2
   split at h1
   ·rename_i hd
    rw[if_pos hd]at h2
    cases hp:jparseM (st (c::r)) with
    |inl q=>
     rw[hp]at h1 h2
     exact⟨h1.1.trans h2.1.symm,h1.2.trans h2.2.symm⟩
    |inr ns=>
     rw[hp]at h1 h2
     exact⟨(h1.2.one h2.2).1,h1.1.trans h2.1.symm⟩
   ·rename_i hd
    rw[if_neg hd]at h2
    split at h1
    ·rename_i hb
     rw[if_pos hb]at h2
     exact⟨h1.1.trans h2.1.symm,h1.2.trans h2.2.symm⟩
    ·rename_i hb
     rw[if_neg hb]at h2
     exact⟨h1.1.trans h2.1.symm,h1.2.trans h2.2.symm⟩
end Go.Proofs.YtkafjblfjdpdaaaGreatDoor
namespace Go.Proofs.YtkafjblfjdpdaaaGreatDoor
open Go.RowKit
theorem leaf_rng {k:Int} {t:Bs} (hk:-9223372036854775808≤k∧k≤9223372036854775807)(ht:t.length≤maxLen):(Vl.mk k t [] []).All Vl.Rng:= .mk _ _ _ _ ⟨hk,ht,fun y hy=>by cases hy⟩ (fun x hx=>by cases hx)
theorem resolve_rng(l:Bs)(hl:l.length≤4096):(resolveL l).All Vl.Rng:=by
 rcases resolve_cases l with ⟨_,h⟩|⟨_,_,_,_,h⟩|⟨_,_,_,_,_,⟨h1,h⟩|⟨_,h⟩⟩
 ·rw[h];exact leaf_rng (by decide) (by decide)
 ·rw[h];exact leaf_rng (by decide) (by unfold maxLen;omega)
 ·rw[h]
  refine leaf_rng (by decide) ?_
  have hpr:=parseM_right (l:=l) (m:=(parseM l).1) (by rw[←h1])
  have hbd:=right_bd (n:=(parseM l).1.neg) (D:=(parseM l).1.digits) (E:=(parseM l).1.exp) hpr
  have:=textM_lenV (parseM l).1 ⟨by omega,by omega⟩
  unfold maxLen
  omega
 ·rw[h];exact leaf_rng (by decide) (by unfold maxLen;omega)
end Go.Proofs.YtkafjblfjdpdaaaGreatDoor
