/-
  PLAIN MATHEMATICS: what is read is a value; where a path leads in a text, it leads in its value; a node's bytes, alone, are its value.
-/
import Derived.Test.YtnlkokgekjlmmaaGreatDoorRdr
import Derived.Test.YtnlkokgekjlmmaaGreatDoorRdi
import Derived.Test.YtnlkokgekjlmmaaGreatDoorUnqD
import Derived.Test.YtnlkokgekjlmmaaGreatDoorJtQ
namespace Go.Proofs.YtnlkokgekjlmmaaGreatDoor
open Go.RowKit
/-! ### paths -/
theorem kidKs_of {s : ByteArray} {ns : List JN} {kids : List Nat} {ks : List Bs} (hl : ks.length = kids.length) (h : ∀ i, i < kids.length → ∃ y, ns[kids.getD i 0]? = some y ∧ StrOk s y.ka y.kb ∧ ks.getD i [] = keyTx s y.ka y.kb) : kidKs s ns kids = ks := by
 unfold kidKs
 apply List.ext_getElem (by rw [List.length_map, hl])
 intro i h1 h2
 rw [List.getElem_map]
 rw [List.length_map] at h1
 obtain ⟨y, a1, _, a3⟩ := h i h1
 rw [getD_at _ _ h1] at a1
 rw [getD_at _ _ h2] at a3
 rw [a1]
 exact a3.symm
theorem kid_below {s : ByteArray} {ns : List JN} {d k : Nat} {v : Vl} {c : Nat} (h : Rv s ns d k v c) (p : Bs) :
 (∀ j, kidOf s ns k p = some j → ∃ w d' c', (belowM v p).2 = true ∧ v.is[(belowM v p).1.toNat]? = some w ∧ Rv s ns d' j w c') ∧ (kidOf s ns k p = none → (belowM v p).2 = false) := by
 cases h with
 | @leaf d k x h1 h2 h3 =>
   obtain ⟨t, _, hv⟩ := leaf_text h2
   obtain ⟨_, _, _, _, _, hkd⟩ := h2
   have hko : kidOf s ns k p = none := by
    unfold kidOf kidAt
    rw [h1]
    simp only
    rw [if_neg (by omega), if_neg (by omega)]
   rw [hko, hv]
   refine ⟨(fun j h => by cases h), fun _ => ?_⟩
   unfold belowM
   rw [if_neg (show ¬ (Vl.mk (x.kd : Int) t [] []).k = 6 from fun e => by have : (x.kd : Int) = 6 := e; omega), if_neg (show ¬ (Vl.mk (x.kd : Int) t [] []).k = 5 from fun e => by have : (x.kd : Int) = 5 := e; omega)]
 | @arr d k x vs cs h1 h2 h3 h4 h5 h6 =>
   have hb : belowM (.mk 5 [] [] vs) p = ((((indexM p).getD 0 : Nat) : Int), (indexM p).isSome && decide ((indexM p).getD 0 < vs.length)) := rfl
   have hko : kidOf s ns k p = (indexM p).bind (fun n => x.kids[n]?) := by
    unfold kidOf kidAt
    rw [h1]
    simp only
    rw [if_pos h2]
   rw [hko, hb]
   simp only
   cases indexM p with
   | none => exact ⟨(fun j h => by cases h), fun _ => rfl⟩
   | some n =>
     simp only [Option.bind_some, Option.getD_some, Option.isSome_some, Bool.true_and, Int.toNat_natCast, decide_eq_true_eq, decide_eq_false_iff_not]
     refine ⟨fun j h => ?_, fun h => ?_⟩
     · obtain ⟨hn, rfl⟩ := List.getElem?_eq_some_iff.1 h
       have h7 := h6 n hn
       rw [getD_at _ _ hn, getD_at _ _ (show n < vs.length by omega)] at h7
       exact ⟨_, _, _, by omega, List.getElem?_eq_getElem (show n < vs.length by omega), h7⟩
     · have := List.getElem?_eq_none_iff.1 h
       omega
 | @obj d k x ks vs cs h1 h2 h3 h4 h5 h6 h7 h8 h9 =>
   have hb : belowM (.mk 6 [] ks vs) p = (ixI ks p, decide (0 ≤ ixI ks p)) := rfl
   have hko : kidOf s ns k p = (ixOf ks p).bind (fun n => x.kids[n]?) := by
    unfold kidOf kidAt
    rw [h1]
    simp only
    rw [if_neg (by omega), if_pos h2, kidKs_of h3 h8]
   rw [hko, hb]
   unfold ixI
   cases hx : ixOf ks p with
   | none => exact ⟨(fun j h => by cases h), fun _ => rfl⟩
   | some n =>
     obtain ⟨hn, _⟩ := ixOf_some hx
     simp only [Option.bind_some, Int.toNat_natCast, decide_eq_true_eq, decide_eq_false_iff_not]
     refine ⟨fun j h => ?_, fun h => ?_⟩
     · obtain ⟨hn2, rfl⟩ := List.getElem?_eq_some_iff.1 h
       have h10 := h9 n hn2
       rw [getD_at _ _ hn2, getD_at _ _ (show n < vs.length by omega)] at h10
       exact ⟨_, _, _, by omega, List.getElem?_eq_getElem (show n < vs.length by omega), h10⟩
     · have := List.getElem?_eq_none_iff.1 h
       omega
/-! ### alone -/
end Go.Proofs.YtnlkokgekjlmmaaGreatDoor
