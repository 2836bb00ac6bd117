/-
  WALKS: the document's parser: kind, here, wrong, sign, scalar.
-/
import Derived.Test.YtmomildkopainaaDoorJpA
import Derived.Test.YtmomildkopainaaDoorJwN
import Derived.Deep.QuietTactic
import Derived.BigQuiet
namespace Go.Proofs.YtmomildkopainaaDoor
open Go.RowKit

/-- the kind of the token at a place; 0: none -/
def kindAt (L : List Tok) (k : Nat) : Nat := ((L[k]?).map fun t => t.1).getD 0
/-- where it begins -/
def hereAt (s : ByteArray) (L : List Tok) (k : Nat) : Nat := ((L[k]?).map fun t => t.2.1).getD s.size
section
variable {w0 W : World} {g : Nat} {s : ByteArray} {L : List Tok} {vL : Value} {k : Nat} {r : RS}
theorem Pd.cells (h : Pd w0 g s L vL k r W) : ∃ a c na nc, vL = .slice a L.length c ∧ r.vN = .slice na r.nv.length nc ∧ W.cell? ⟨g, 0, none⟩ = some (.string s) ∧ W.cell? ⟨g, 1, none⟩ = some (.slice a L.length c) ∧ W.cell? ⟨g, 2, none⟩ = some (.int .i64 (k : Int)) ∧ W.cell? ⟨g, 3, none⟩ = some (.slice na r.nv.length nc) ∧
    W.cell? ⟨g, 4, none⟩ = some (.int .i64 r.wh) ∧ W.cell? ⟨g, 5, none⟩ = some (.int .i64 r.er) ∧ ∀ i, W.frozen? ⟨g, i, none⟩ = false := by
  obtain ⟨a, c, e1⟩ := row_shape h.tk
  obtain ⟨na, nc, e2⟩ := row_shape h.nd
  refine ⟨a, c, na, nc, e1, e2, h.blk.at_ 0, ?_, h.blk.at_ 2, ?_, h.blk.at_ 4, h.blk.at_ 5, h.blk.free⟩
  · rw [← e1]; exact h.blk.at_ 1
  · rw [← e2]; exact h.blk.at_ 3
theorem Pd.tl9 (h : Pd w0 g s L vL k r W) : L.length ≤ maxLen := by
  rcases h.tk.2 with ⟨_, h0⟩ | ⟨q, cap, cur, hv, _, _, hc, hm, _⟩
  · rw [h0]; exact Nat.zero_le _
  · exact Nat.le_trans hc hm
theorem Pd.tok (h : Pd w0 g s L vL k r W) {i : Nat} (hi : i < L.length) : ∃ gT c, vL = .slice (some ⟨gT, 0, none⟩) L.length c ∧ W.cell? ⟨gT, i * 3, none⟩ = some (.int .i64 (L[i].1 : Int)) ∧ W.cell? ⟨gT, i * 3 + 1, none⟩ = some (.int .i64 (L[i].2.1 : Int)) ∧ W.cell? ⟨gT, i * 3 + 2, none⟩ = some (.int .i64 (L[i].2.2 : Int)) := by
  obtain ⟨n, hn⟩ : ∃ n, L.length = n + 1 := ⟨L.length - 1, by omega⟩
  have h1 := h.tk
  rw [hn] at h1
  obtain ⟨gT, c, hv, _, _, hc⟩ := row_cells1 h1
  obtain ⟨q1, q2, q3⟩ := tokCells_at L i _ (List.getElem?_eq_getElem hi)
  exact ⟨gT, c, by rw [hv, hn], hc _ _ q1, hc _ _ q2, hc _ _ q3⟩
end
set_option maxHeartbeats 1000000 in
set_option maxRecDepth 1000000 in
theorem pkind_any {w0 W : World} {g : Nat} {s : ByteArray} {L : List Tok} {vL : Value} {k : Nat} {r : RS} (h : Pd w0 g s L vL k r W) :
    Calls Tryd.prog 47 #[.pointer (some ⟨g, 0, none⟩)] W fun e W' => e = .returned (.int .i64 (kindAt L k : Int)) ∧ Below W.heap.size W W' := by
  obtain ⟨a, c, na, nc, e1, e2, c0, c1, c2, c3, c4, c5, cf⟩ := h.cells
  have hkl := h.tm
  by_cases hk : k < L.length
  · obtain ⟨gT, cT, e3, t0, t1, t2⟩ := h.tok hk
    rw [e1] at e3
    cases e3
    have HK : Hq (kindAt L k = L[k].1) := hq (by unfold kindAt; rw [List.getElem?_eq_getElem hk]; rfl)
    have hkz : ¬ (L.length : Int) ≤ (k : Int) := by omega
    have hkb : decide ((L.length : Int) ≤ (k : Int)) = false := decide_eq_false hkz
    have hkz2 : (k : Int) < (L.length : Int) := by omega
    have HB := hq (fun n m => below_drewN (below_drewN (Below.refl W.heap.size W) n) m)
    clear h e1 e2
    generalize kindAt L k = kk at *
    generalize L[k].1 = q1 at *
    go_enter Tryd.func47, Tryd.ntmps47
    go_wp2_with fail
    go_big_quiet (fail)
    go_wp2_with fail
    go_big_quiet (fail)
    go_wp2_with fail
    go_ret
    exact ⟨by rw [HK.o]; rfl, HB.o _ _⟩
  · have HK : Hq (kindAt L k = 0) := hq (by unfold kindAt; rw [List.getElem?_eq_none (by omega)]; rfl)
    have hkz : (L.length : Int) ≤ (k : Int) := by omega
    clear h e1 e2
    generalize kindAt L k = kk at *
    go_enter Tryd.func47, Tryd.ntmps47
    go_wp2_with fail
    go_big_quiet (fail)
    go_wp2_with fail
    go_ret
    exact ⟨by rw [HK.o]; rfl, below_drewN (Below.refl _ _) _⟩
set_option maxHeartbeats 1000000 in
set_option maxRecDepth 1000000 in
theorem phere_any {w0 W : World} {g : Nat} {s : ByteArray} {L : List Tok} {vL : Value} {k : Nat} {r : RS} (h : Pd w0 g s L vL k r W) :
    Calls Tryd.prog 49 #[.pointer (some ⟨g, 0, none⟩)] W fun e W' => e = .returned (.int .i64 (hereAt s L k : Int)) ∧ Below W.heap.size W W' := by
  obtain ⟨a, c, na, nc, e1, e2, c0, c1, c2, c3, c4, c5, cf⟩ := h.cells
  have hkl := h.tm
  by_cases hk : k < L.length
  · obtain ⟨gT, cT, e3, t0, t1, t2⟩ := h.tok hk
    rw [e1] at e3
    cases e3
    have HK : Hq (hereAt s L k = L[k].2.1) := hq (by unfold hereAt; rw [List.getElem?_eq_getElem hk]; rfl)
    have hkz : ¬ (L.length : Int) ≤ (k : Int) := by omega
    have hkb : decide ((L.length : Int) ≤ (k : Int)) = false := decide_eq_false hkz
    have hkz2 : (k : Int) < (L.length : Int) := by omega
    have HB := hq (fun n m => below_drewN (below_drewN (Below.refl W.heap.size W) n) m)
    clear h e1 e2
    generalize hereAt s L k = kk at *
    generalize L[k].2.1 = q1 at *
    go_enter Tryd.func49, Tryd.ntmps49
    go_wp2_with fail
    go_big_quiet (fail)
    go_wp2_with fail
    go_big_quiet (fail)
    go_wp2_with fail
    go_ret
    exact ⟨by rw [HK.o]; rfl, HB.o _ _⟩
  · have HK : Hq (hereAt s L k = s.size) := hq (by unfold hereAt; rw [List.getElem?_eq_none (by omega)]; rfl)
    have hkz : (L.length : Int) ≤ (k : Int) := by omega
    clear h e1 e2
    generalize hereAt s L k = kk at *
    go_enter Tryd.func49, Tryd.ntmps49
    go_wp2_with fail
    go_big_quiet (fail)
    go_wp2_with fail
    go_ret
    exact ⟨by rw [HK.o]; rfl, below_drewN (Below.refl _ _) _⟩

set_option maxHeartbeats 1000000 in
set_option maxRecDepth 1000000 in
theorem pwrong_any {w0 W : World} {g : Nat} {s : ByteArray} {L : List Tok} {vL : Value} {k : Nat} {r : RS} (h : Pd w0 g s L vL k r W) (er : Int) :
    Calls Tryd.prog 27 #[.pointer (some ⟨g, 0, none⟩), .int .i64 er] W fun e W' => e = .returned (.bool false) ∧ Pd w0 g s L vL k (r.bad (hereAt s L k : Int) er) W' ∧ Fr (r.own g) (r.own g) W W' := by
  have HC := hq (phere_any h)
  have HR := hq h
  clear h
  generalize hereAt s L k = hh at *
  go_enter Tryd.func27, Tryd.ntmps27
  go_wp2_with fail
  refine HC.o.mono ?_
  rintro e W2 ⟨rfl, hb⟩
  have HR2 := hq (HR.o.grow hb)
  have HF2 := hq (Fr.of_below (r.own g) hb)
  obtain ⟨a, c, na, nc, e1, e2, c0, c1, c2, c3, c4, c5, cf⟩ := HR2.o.cells
  have c5' : (W2.setCell ⟨g, 4, none⟩ (.int .i64 (hh : Int))).cell? ⟨g, 5, none⟩ = some (.int .i64 r.er) := (HR2.o.blk.put 4 (.int .i64 (hh : Int))).at_ 5
  have cf' : ∀ i, (W2.setCell ⟨g, 4, none⟩ (.int .i64 (hh : Int))).frozen? ⟨g, i, none⟩ = false := (HR2.o.blk.put 4 (.int .i64 (hh : Int))).free
  clear hb HC HR e1 e2
  go_wp2_with fail
  go_ret
  exact ⟨rfl, HR2.o.fail _ _, HF2.o.trans (Fr.fail2 r g W2 _ _)⟩
set_option maxHeartbeats 1000000 in
set_option maxRecDepth 1000000 in
theorem psign_any {w0 W : World} {g : Nat} {s : ByteArray} {L : List Tok} {vL : Value} {k : Nat} {r : RS} (h : Pd w0 g s L vL k r W) (kd : Nat) (hkd : 0 < kd) :
    Calls Tryd.prog 105 #[.pointer (some ⟨g, 0, none⟩), .int .i64 (kd : Int)] W fun e W' => if kindAt L k = kd then e = .returned (.bool true) ∧ Pd w0 g s L vL (k + 1) r W' ∧ Fr (r.own g) (r.own g) W W' ∧ k < L.length else
      e = .returned (.bool false) ∧ Pd w0 g s L vL k (r.bad (hereAt s L k : Int) 2) W' ∧ Fr (r.own g) (r.own g) W W' := by
  have HC := hq (pkind_any h)
  have HR := hq h
  have hL9 : L.length ≤ maxLen := h.tl9
  have hkl := h.tm
  have hlt : kindAt L k = kd → k < L.length := fun e => by
    rcases Nat.lt_or_ge k L.length with h | h
    · exact h
    · unfold kindAt at e; rw [List.getElem?_eq_none h] at e; simp at e; omega
  clear h
  by_cases hk : kindAt L k = kd
  · have hkk := hlt hk
    have HK := hq hk
    simp only [if_pos hk]
    have hf : ((kindAt L k : Int) != (kd : Int)) = false := by rw [bne_eq_false_iff_eq]; omega
    have HST := hq (show k + 1 ≤ L.length by omega)
    clear hlt hk
    unfold maxLen at hL9
    generalize kindAt L k = kk at *
    go_enter Tryd.func105, Tryd.ntmps105
    go_wp2_with fail
    refine HC.o.mono ?_
    rintro e W2 ⟨rfl, hb⟩
    have HR2 := hq (HR.o.grow hb)
    have HF2 := hq (Fr.of_below (r.own g) hb)
    obtain ⟨a, c, na, nc, e1, e2, c0, c1, c2, c3, c4, c5, cf⟩ := HR2.o.cells
    have HS := hq (HR2.o.step HST.o)
    have e5 : ((k + 1 : Nat) : Int) = (k : Int) + 1 := by omega
    rw [e5] at HS
    clear hb HC HR e1 e2 e5
    go_wp2_with fail
    go_ret
    exact ⟨rfl, HS.o, HF2.o.trans ((Fr.refl _ _).set (.inl rfl) _), hkk⟩
  · have HCW := hq (fun W2 (hr : Pd w0 g s L vL k r W2) => pwrong_any hr 2)
    simp only [if_neg hk]
    have hf : ((kindAt L k : Int) != (kd : Int)) = true := by rw [bne_iff_ne]; omega
    clear hlt hk
    generalize kindAt L k = kk at *
    go_enter Tryd.func105, Tryd.ntmps105
    go_wp2_with fail
    refine HC.o.mono ?_
    rintro e W2 ⟨rfl, hb⟩
    have HF2 := hq (Fr.of_below (r.own g) hb)
    have HCC := hq (HCW.o _ (HR.o.grow hb))
    clear hb HC HR HCW
    go_wp2_with fail
    refine HCC.o.mono ?_
    rintro e W3 ⟨rfl, hr3, hf3⟩
    have HZ := hq (And.intro hr3 (HF2.o.trans hf3))
    clear hr3 hf3
    go_wp2_with fail
    go_ret
    exact ⟨rfl, HZ.o.1, HZ.o.2⟩
set_option maxHeartbeats 1000000 in
set_option maxRecDepth 1000000 in
theorem pscalar_any (k : Nat) (W : World) : Calls Tryd.prog 46 #[.int .i64 (k : Int)] W fun e W' => e = .returned (.int .i64 ((if kindM k ≤ 4 then kindM k else 0 : Nat) : Int)) ∧ W = W' := by
  have e : ∀ n, (if kindM n ≤ 4 then kindM n else 0 : Nat) = if n = 12 then 1 else if n = 10 ∨ n = 11 then 2 else if n = 9 then 3 else if n = 8 then 4 else 0 := fun n => by
    unfold kindM
    by_cases h1 : n = 12
    · simp [h1]
    · by_cases h2 : n = 10 ∨ n = 11
      · simp [h1, h2]
      · by_cases h3 : n = 9
        · simp [h3]
        · by_cases h4 : n = 8
          · simp [h4]
          · by_cases h5 : n = 4
            · simp [h5]
            · by_cases h6 : n = 2
              · simp [h6]
              · simp [h1, h2, h3, h4, h5, h6]
  rw [e]
  by_cases h1 : k = 12
  · subst h1
    go_enter Tryd.func46, Tryd.ntmps46
    go_wp2_with fail
    go_ret
    exact ⟨rfl, rfl⟩
  · by_cases h2 : k = 10
    · subst h2
      go_enter Tryd.func46, Tryd.ntmps46
      go_wp2_with fail
      go_ret
      exact ⟨rfl, rfl⟩
    · by_cases h3 : k = 11
      · subst h3
        go_enter Tryd.func46, Tryd.ntmps46
        go_wp2_with fail
        go_ret
        exact ⟨rfl, rfl⟩
      · by_cases h4 : k = 9
        · subst h4
          go_enter Tryd.func46, Tryd.ntmps46
          go_wp2_with fail
          go_ret
          exact ⟨rfl, rfl⟩
        · by_cases h5 : k = 8
          · subst h5
            go_enter Tryd.func46, Tryd.ntmps46
            go_wp2_with fail
            go_ret
            exact ⟨rfl, rfl⟩
          · rw [if_neg h1, if_neg (by omega), if_neg h4, if_neg h5]
            have g1 : ¬ (k : Int) = 12 := by omega
            have g2 : ¬ (k : Int) = 10 := by omega
            have g3 : ¬ (k : Int) = 11 := by omega
            have g4 : ¬ (k : Int) = 9 := by omega
            have g5 : ¬ (k : Int) = 8 := by omega
            clear h1 h2 h3 h4 h5
            go_enter Tryd.func46, Tryd.ntmps46
            go_wp2_with fail
            go_ret
            exact ⟨rfl, rfl⟩
end Go.Proofs.YtmomildkopainaaDoor
