/-
  PLAIN MATHEMATICS, NO PROGRAM: decimals as lists of bytes: literals, right numbers, their texts.
-/
import Derived.Lib.Strings
import Derived.Lib.TrimByte
import Derived.Lib.Bytealg
import Derived.Test.YtfibmmmbpfnccaaGreatDoorRunesMath
namespace Go.Proofs.YtfibmmmbpfnccaaGreatDoor

abbrev Bs := List UInt8
/-- a text as its bytes, and back -/
abbrev st (l : Bs) : ByteArray := ⟨l.toArray⟩
theorem st_list (l : Bs) : (st l).data.toList = l := by simp
theorem st_size (l : Bs) : (st l).size = l.length := by simp [ByteArray.size]
theorem st_of (s : ByteArray) : st s.data.toList = s := by cases s; simp
theorem size_list (s : ByteArray) : s.size = s.data.toList.length := rfl
theorem extract_st (s : ByteArray) (a b : Nat) : s.extract a b = st ((s.data.toList.drop a).take (b - a)) := by
  have h : (s.extract a b).data.toList = (s.data.toList.drop a).take (b - a) := by
    rw [ByteArray.data_extract, Array.toList_extract]
  rw [← h, st_of]

def isDig (c : UInt8) : Bool := decide (48 ≤ c.toNat) && decide (c.toNat ≤ 57)
/-- with how many digits a text begins -/
def nd (l : Bs) : Nat := (l.takeWhile isDig).length
theorem nd_le (l : Bs) : nd l ≤ l.length := by
  unfold nd; exact (List.takeWhile_prefix _).length_le
theorem nd_is (l : Bs) (k : Nat) (h : ∀ j (hj : j < l.length), j < k → isDig l[j] = true) (hk : ∀ hk : k < l.length, isDig l[k] = false) (hl : k ≤ l.length) : nd l = k := by
  induction l generalizing k with
  | nil => simp at hl; subst hl; rfl
  | cons c l ih =>
    cases k with
    | zero =>
      have := hk (by simp)
      simp at this
      simp [nd, this]
    | succ k =>
      have h0 := h 0 (by simp) (by omega)
      simp at h0
      have := ih k (fun j hj hjk => by have := h (j + 1) (by simp; omega) (by omega); simpa using this) (fun hk' => by have := hk (by simp; omega); simpa using this) (by simpa using hl)
      simp only [nd, List.takeWhile_cons, h0, if_true, List.length_cons] at *
      omega
theorem take_nd (l : Bs) : l.take (nd l) = l.takeWhile isDig := by
  unfold nd
  have h := List.takeWhile_append_dropWhile (p := isDig) (l := l)
  conv => lhs; rw [← h]
  rw [List.take_left']
  simp [h]
theorem drop_nd (l : Bs) : l.drop (nd l) = l.dropWhile isDig := by
  unfold nd
  have h := List.takeWhile_append_dropWhile (p := isDig) (l := l)
  conv => lhs; rw [← h]
  rw [List.drop_left']
  simp [h]
end Go.Proofs.YtfibmmmbpfnccaaGreatDoor
