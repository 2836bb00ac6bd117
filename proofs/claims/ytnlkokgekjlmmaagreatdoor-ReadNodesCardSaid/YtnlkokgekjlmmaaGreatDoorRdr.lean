/-
  PLAIN MATHEMATICS: what is read is in range.
-/
import Derived.Test.YtnlkokgekjlmmaaGreatDoorRde
import Derived.Test.YtnlkokgekjlmmaaGreatDoorVrC
namespace Go.Proofs.YtnlkokgekjlmmaaGreatDoor
open Go.RowKit
theorem Rv.rngL {s : ByteArray} {ns : List JN} (hs : s.size ≤ 65536) {d k : Nat} {v : Vl} {c : Nat} (h : Rv s ns d k v c) : v.All (fun x => Vl.Rng x ∧ Lim x) := by
 have hkey : ∀ a b, (keyTx s a b).length ≤ 1048576 := fun a b => by
  have h1 := unq_len (s.extract a b)
  rw [ByteArray.size_extract] at h1
  show (unquoteM (s.extract a b)).1.length ≤ 1048576
  omega
 have hit : ∀ (vs : List Vl), (∀ i, i < vs.length → (vs.getD i zV).All (fun x => Vl.Rng x ∧ Lim x)) → ∀ x ∈ vs, x.All (fun x => Vl.Rng x ∧ Lim x) := fun vs h x hx => by
  obtain ⟨i, hi, rfl⟩ := List.getElem_of_mem hx
  have := h i hi
  rwa [getD_at _ _ hi] at this
 induction h with
 | @leaf d k x h1 h2 h3 =>
   obtain ⟨t, ht, hv⟩ := leaf_text h2
   rw [hv]
   obtain ⟨ha, hb, _, _, _, hkd⟩ := h2
   have hx : (s.extract x.a x.b).size ≤ 65536 := by rw [ByteArray.size_extract]; omega
   have htl : t.length ≤ 1000000 := by
    rcases ht with ⟨_, rfl⟩ | ⟨_, rfl⟩ | ⟨_, h1, rfl⟩ | ⟨_, h1, rfl⟩
    · exact Nat.zero_le _
    · rw [Array.length_toList]; exact Nat.le_trans hx (by decide)
    · have hpr := parseM_right (l := (s.extract x.a x.b).data.toList) (m := (parseM (s.extract x.a x.b).data.toList).1) (by rw [← h1])
      have hbd := right_bd (n := (parseM (s.extract x.a x.b).data.toList).1.neg) (D := (parseM (s.extract x.a x.b).data.toList).1.digits) (E := (parseM (s.extract x.a x.b).data.toList).1.exp) hpr
      have := textM_lenV (parseM (s.extract x.a x.b).data.toList).1 ⟨by omega, by omega⟩
      omega
    · have := unq_len (s.extract x.a x.b)
      omega
   exact .mk _ _ _ _ ⟨⟨⟨by show (-9223372036854775808 : Int) ≤ (x.kd : Int); omega, by show (x.kd : Int) ≤ 9223372036854775807; omega⟩, by show t.length ≤ maxLen; unfold maxLen; omega, fun y hy => by cases hy⟩, by show t.length ≤ 1048576; omega, fun y hy => by cases hy⟩ (fun y hy => by cases hy)
 | @arr d k x vs cs h1 h2 h3 h4 h5 h6 ih =>
   exact .mk _ _ _ _ ⟨⟨⟨by show (-9223372036854775808 : Int) ≤ 5; decide, by show (5 : Int) ≤ 9223372036854775807; decide⟩, Nat.zero_le _, fun y hy => by cases hy⟩, Nat.zero_le _, fun y hy => by cases hy⟩ (hit vs (fun i hi => ih i (by omega)))
 | @obj d k x ks vs cs h1 h2 h3 h4 h5 h6 h7 h8 h9 ih =>
   have hkk : ∀ y ∈ ks, y.length ≤ 1048576 := fun y hy => by
    obtain ⟨i, hi, rfl⟩ := List.getElem_of_mem hy
    have hi' : i < ks.length := hi
    obtain ⟨y, _, _, h12⟩ := h8 i (by omega)
    rw [getD_at _ _ hi'] at h12
    rw [h12]; exact hkey _ _
   exact .mk _ _ _ _ ⟨⟨⟨by show (-9223372036854775808 : Int) ≤ 6; decide, by show (6 : Int) ≤ 9223372036854775807; decide⟩, Nat.zero_le _, fun y hy => Nat.le_trans (hkk y hy) (by decide)⟩, Nat.zero_le _, hkk⟩ (hit vs (fun i hi => ih i (by omega)))
theorem Rv.rng {s : ByteArray} {ns : List JN} (hs : s.size ≤ 65536) {d k : Nat} {v : Vl} {c : Nat} (h : Rv s ns d k v c) : v.All Vl.Rng := (h.rngL hs).mono (fun _ h => h.1)
theorem Rv.lim {s : ByteArray} {ns : List JN} (hs : s.size ≤ 65536) {d k : Nat} {v : Vl} {c : Nat} (h : Rv s ns d k v c) : v.All Lim := (h.rngL hs).mono (fun _ h => h.2)
theorem row_same {w W : World} {B e size n : Nat} {v : Value} {xs : List Value} (h : w.ownsRow B e size v n xs) (hW : ∀ g, B ≤ g → g < w.heap.size → W.heap[g]? = w.heap[g]?) : W.ownsRow B e size v n xs := by
 refine ⟨h.1, ?_⟩
 rcases h.2 with h1 | ⟨g, cap, cur, h1, h2, h3, h4⟩
 · exact .inl h1
 · exact .inr ⟨g, cap, cur, h1, h2, by rw [hW g h2 (Array.getElem?_eq_some_iff.1 h3).1]; exact h3, h4⟩
theorem own_same {tV tS : TypeId} {B : Nat} {P : Nat → Prop} {w W : World} {x : Vt} (h : x.Own tV tS B P w) (hW : ∀ g, B ≤ g → g < w.heap.size → W.heap[g]? = w.heap[g]?) : x.Own tV tS B P W := by
 induction h with
 | mk k t ks o c is hks hkb hrow hrb _ ih => exact .mk k t ks o c is (row_same hks hW) hkb (row_same hrow hW) hrb ih
end Go.Proofs.YtnlkokgekjlmmaaGreatDoor
