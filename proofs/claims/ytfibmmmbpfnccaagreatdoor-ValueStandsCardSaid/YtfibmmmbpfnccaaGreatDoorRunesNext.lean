/-
  WALKS: runes.Next, runes.Valid.
-/
import Derived.Test.YtfibmmmbpfnccaaGreatDoorChecked
import Derived.Test.YtfibmmmbpfnccaaGreatDoorShelf
import Derived.Test.YtfibmmmbpfnccaaGreatDoorRunesMath
import Derived.Test.YtfibmmmbpfnccaaGreatDoorMem
import Derived.WalkKit
import Derived.WalkSpells
import Derived.WalkLawsBesides
import Derived.Lib.OthersKept
import Derived.Lib.Hide
namespace Go.Proofs.YtfibmmmbpfnccaaGreatDoor
open Go.RowKit

abbrev tabs (w : World) : Prop := Lib.Utf8Tabs 3 4 w

/-- what Next answers -/
def nxt (s : ByteArray) (at' : Int) : Int × Int := if at' < 0 ∨ (s.size : Int) ≤ at' then (0, 0) else ((Utf8.decode s at'.toNat).1, (Utf8.decode s at'.toNat).2)

theorem decodeGo_tail (s : ByteArray) (pos : Nat) (h : pos < s.size) : Lib.decodeGo (s.extract pos s.size) = Utf8.decode s pos := by
  unfold Lib.decodeGo
  rw [if_neg (by rw [ByteArray.size_extract]; omega)]
  have := dec_cut s pos s.size 0 (Nat.le_refl _) (.inl rfl) (by omega)
  simpa using this

set_option maxHeartbeats 400000 in
theorem next_any (s : ByteArray) (a : Int) (w : World) (hT : tabs w) (_hs : s.size ≤ maxLen) (ha : -9223372036854775808 ≤ a ∧ a ≤ 9223372036854775807) :
    Calls Tryz.prog 120 #[.string s, .int .i64 a] w fun e w' => e = .returned (.tuple #[.int .i32 (nxt s a).1, .int .i64 (nxt s a).2]) ∧ Below w.heap.size w w' := by
  unfold maxLen at _hs
  obtain ⟨ha1, ha2⟩ := ha
  by_cases h0 : a < 0
  · have hn : nxt s a = (0, 0) := by unfold nxt; rw [if_pos (.inl h0)]
    rw [hn]
    clear hn
    go_enter Tryz.func120, Tryz.ntmps120
    go_wp2
    go_ret2
    exact ⟨rfl, Below.refl _ _⟩
  · by_cases h1 : (s.size : Int) ≤ a
    · have hn : nxt s a = (0, 0) := by unfold nxt; rw [if_pos (.inr h1)]
      rw [hn]
      clear hn
      go_enter Tryz.func120, Tryz.ntmps120
      go_wp2
      go_ret2
      exact ⟨rfl, Below.refl _ _⟩
    · obtain ⟨n, rfl⟩ := Int.eq_ofNat_of_zero_le (by omega : 0 ≤ a)
      have hn : nxt s (n : Int) = (((Lib.decodeGo (s.extract n s.size)).1 : Int), ((Lib.decodeGo (s.extract n s.size)).2 : Int)) := by
        unfold nxt; rw [if_neg (by omega), decodeGo_tail s n (by omega)]; rfl
      rw [hn]
      clear hn
      have H := Lib.hid hT
      clear hT
      go_enter Tryz.func120, Tryz.ntmps120
      go_wp2_with fail
      refine (Tryz.utf8_DecodeRuneInString _ _ H.out).mono ?_
      rintro e w' ⟨rfl, hb⟩
      go_wp2
      go_ret2
      exact ⟨rfl, hb⟩

end Go.Proofs.YtfibmmmbpfnccaaGreatDoor
