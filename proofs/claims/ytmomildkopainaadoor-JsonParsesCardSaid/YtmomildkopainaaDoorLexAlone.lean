/-
  WALKS: lex.Text; the law LexAlone.
-/
import Derived.Test.YtmomildkopainaaDoorLexS
import Derived.BigQuiet
import Derived.Deep.QuietTactic
namespace Go.Proofs.YtmomildkopainaaDoor
open Go.RowKit

def textT (s : ByteArray) (a b : Int) : ByteArray × Bool := if a < 0 ∨ b < a ∨ (s.size : Int) < b then (⟨#[]⟩, false) else (s.extract a.toNat b.toNat, true)
def TextPost (r : ByteArray × Bool) (w : World) (e : Ending) (w' : World) : Prop := e = .returned (.tuple #[.string r.1, .bool r.2]) ∧ Below w.heap.size w w'
theorem tokensM_mem {s : ByteArray} {x : Tok} (h : x ∈ (tokensM s).1) : x.2.1 < x.2.2 ∧ x.2.2 ≤ s.size ∧ oneM s x.2.1 = (x.1, x.2.2, 0) := by
  unfold tokensM at h
  split at h
  · cases h
  · split at h
    · cases h
    · unfold toksM at h
      rw [toksGo_L] at h
      simp only [List.nil_append] at h
      exact toksL_mem s s.size 0 (Nat.zero_le _) x h
theorem tokensM_alone {s : ByteArray} {x : Tok} (h : x ∈ (tokensM s).1) (hs : s.size ≤ 65536) : tokensM (s.extract x.2.1 x.2.2) = ([(x.1, 0, (s.extract x.2.1 x.2.2).size)], (s.extract x.2.1 x.2.2).size, 0) := by
  obtain ⟨h1, h2, h3⟩ := tokensM_mem h
  have hz : (s.extract x.2.1 x.2.2).size = x.2.2 - x.2.1 := by rw [ByteArray.size_extract]; omega
  have ha := toks_alone h1 h2 h3
  unfold tokensM
  rw [if_neg (by omega), ha, hz]
  rfl

end Go.Proofs.YtmomildkopainaaDoor
