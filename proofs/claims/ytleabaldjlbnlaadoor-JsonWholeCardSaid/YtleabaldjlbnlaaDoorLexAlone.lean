/-
  WALKS: lex.Text; the law LexAlone.
-/
import Derived.Test.YtleabaldjlbnlaaDoorLexS
import Derived.BigQuiet
import Derived.Deep.QuietTactic
namespace Go.Proofs.YtleabaldjlbnlaaDoor
open Go.RowKit

def textT (s : ByteArray) (a b : Int) : ByteArray × Bool := if a < 0 ∨ b < a ∨ (s.size : Int) < b then (⟨#[]⟩, false) else (s.extract a.toNat b.toNat, true)
def TextPost (r : ByteArray × Bool) (w : World) (e : Ending) (w' : World) : Prop := e = .returned (.tuple #[.string r.1, .bool r.2]) ∧ Below w.heap.size w w'
set_option maxHeartbeats 1000000 in
set_option maxRecDepth 1000000 in
theorem text4_any (s : ByteArray) (k a b : Int) (w : World) (_hs : s.size ≤ maxLen) (ha : -9223372036854775808 ≤ a ∧ a ≤ 9223372036854775807) (hb : -9223372036854775808 ≤ b ∧ b ≤ 9223372036854775807) :
    Calls Tryd.prog 25 #[.string s, .agg #[.int .i64 k, .int .i64 a, .int .i64 b]] w (TextPost (textT s a b) w) := by
  unfold maxLen at _hs
  obtain ⟨ha1, ha2⟩ := ha
  obtain ⟨hb1, hb2⟩ := hb
  have HN : Hq (textT s a b = if a < 0 ∨ b < a ∨ (s.size : Int) < b then (⟨#[]⟩, false) else (s.extract a.toNat b.toNat, true)) := hq rfl
  have hal := below_alloc w (.cells #[.int .i64 k, .int .i64 a, .int .i64 b] 51)
  generalize textT s a b = R at *
  by_cases h1 : a < 0
  · have HN2 := hq (HN.o.trans (if_pos (.inl h1)))
    clear HN
    go_enter Tryd.func25, Tryd.ntmps25
    go_wp2_with fail
    go_ret2
    exact ⟨by rw [HN2.o]; rfl, hal⟩
  · by_cases h2 : b < a
    · have HN2 := hq (HN.o.trans (if_pos (.inr (.inl h2))))
      clear HN
      go_enter Tryd.func25, Tryd.ntmps25
      go_wp2_with fail
      go_ret2
      exact ⟨by rw [HN2.o]; rfl, hal⟩
    · by_cases h3 : (s.size : Int) < b
      · have HN2 := hq (HN.o.trans (if_pos (.inr (.inr h3))))
        clear HN
        go_enter Tryd.func25, Tryd.ntmps25
        go_wp2_with fail
        go_ret2
        exact ⟨by rw [HN2.o]; rfl, hal⟩
      · have HN2 := hq (HN.o.trans (if_neg (by omega)))
        clear HN
        go_enter Tryd.func25, Tryd.ntmps25
        go_wp2_with fail
        go_ret2
        exact ⟨by rw [HN2.o]; rfl, hal⟩

theorem tokensM_mem {s : ByteArray} {x : Tok} (h : x ∈ (tokensM s).1) : x.2.1 < x.2.2 ∧ x.2.2 ≤ s.size ∧ oneM s x.2.1 = (x.1, x.2.2, 0) := by
  unfold tokensM at h
  split at h
  · cases h
  · split at h
    · cases h
    · unfold toksM at h
      rw [toksGo_L] at h
      simp only [List.nil_append] at h
      exact toksL_mem s s.size 0 (Nat.zero_le _) x h
theorem tokensM_alone {s : ByteArray} {x : Tok} (h : x ∈ (tokensM s).1) (hs : s.size ≤ 65536) : tokensM (s.extract x.2.1 x.2.2) = ([(x.1, 0, (s.extract x.2.1 x.2.2).size)], (s.extract x.2.1 x.2.2).size, 0) := by
  obtain ⟨h1, h2, h3⟩ := tokensM_mem h
  have hz : (s.extract x.2.1 x.2.2).size = x.2.2 - x.2.1 := by rw [ByteArray.size_extract]; omega
  have ha := toks_alone h1 h2 h3
  unfold tokensM
  rw [if_neg (by omega), ha, hz]
  rfl

end Go.Proofs.YtleabaldjlbnlaaDoor
