/-
  WALKS: of a printer: String, quoted, line.
-/
import Derived.Test.YtnlkokgekjlmmaaGreatDoorPrA
import Derived.Test.YtnlkokgekjlmmaaGreatDoorQuoteQ
namespace Go.Proofs.YtnlkokgekjlmmaaGreatDoor
open Go.RowKit
def qtB (t : Bs) : Bs := (quoteM (st t)).1
def lnB (ls : Bool) (n lev : Nat) : Bs := if ls = true then 10 :: List.replicate (n * lev) 32 else []
def PrPost (B b : Nat) (l : Bs) (ls : Bool) (n : Int) (w : World) (e : Ending) (w' : World) : Prop := e = .returned (.tuple #[]) ∧ PrW B b l ls n w w'
theorem PrW.after {B b : Nat} {l : Bs} {ls : Bool} {n : Int} {w w1 w2 : World} (hb : Below w.heap.size w w1) (hB : B ≤ w.heap.size) (h : PrW B b l ls n w1 w2) : PrW B b l ls n w w2 :=
  ⟨h.1, (hb.mono hB).trans h.2.1, fun k o hk hne ho => h.2.2 k o ((hb.block k (Array.getElem?_eq_some_iff.1 hk).1).trans hk) hne ho⟩
theorem PrW.none {B b : Nat} {l : Bs} {ls : Bool} {n : Int} {w : World} (h : Prn B b l ls n w) : PrW B b l ls n w w := ⟨h, Below.refl B w, Lib.OthersKept.refl _ _ _⟩
set_option maxHeartbeats 2000000 in
set_option maxRecDepth 100000 in
theorem pString (B b : Nat) (l : Bs) (ls : Bool) (n : Int) (w : World) (h : Prn B b l ls n w) (h0 : l ≠ []) :
    Calls Tryz.prog 51 #[.pointer (some ⟨b, 0, none⟩)] w fun e w' => e = .returned (.string (st l)) ∧ Below B w w' := by
  obtain ⟨p, hB, v, hbk, hown⟩ : ∃ p, PrAt B b p l ls n w := by
    rcases h with h | h
    · exact ⟨_, h⟩
    · exact ⟨_, h⟩
  have hl0 : l.length ≠ 0 := by simpa using h0
  obtain ⟨g, cap, cur, rfl, hbg, hg, hnc, hcm, hcs, htake⟩ : ∃ g cap cur, v = .slice (some ⟨g, 0, none⟩) l.length cap ∧ B ≤ g ∧ w.heap[g]? = some (.cells cur 5 (0, 0)) ∧ l.length ≤ cap ∧ cap ≤ maxLen ∧ cur.size = cap * 1 ∧ cur.toList.take (l.length * 1) = Lib.byteCells l := by
    rcases hown.2 with ⟨_, hz⟩ | ⟨g, cap, cur, hv, r⟩
    · exact absurd hz hl0
    · exact ⟨g, cap, cur, hv, r⟩
  have c1 : w.drew.cell? ⟨b, 1, none⟩ = some (.slice (some ⟨g, 0, none⟩) l.length cap) := by
    have : w.drew.heap[b]? = some (.cells #[p, .slice (some ⟨g, 0, none⟩) l.length cap, .bool ls, .int .i64 n] 82 (0, 0)) := hbk
    rw [Lib.cell_of_heap this]; rfl
  have c2 : w.cell? ⟨b, 1, none⟩ = some (.slice (some ⟨g, 0, none⟩) l.length cap) := c1
  have hSD : (Builtin.unsafeSliceData_ #[78] 141 #[.slice (some ⟨g, 0, none⟩) l.length cap]).run Tryz.prog w.drew = .ok (.pointer (some ⟨g, 0, none⟩)) w.drew :=
    Lib.run_unsafeSliceData_row _ _ _ _ _ _ (by omega)
  have hUS : (Builtin.unsafeString_ #[141, 3] 9 #[.pointer (some ⟨g, 0, none⟩), .int .i64 l.length]).run Tryz.prog w.drew = .ok (.string ⟨l.toArray⟩) (w.drew.freeze ⟨g, 0, none⟩ l.length) := by
    refine Lib.run_unsafeString_row w.drew 141 3 9 5 (by kernel_rfl) (by kernel_rfl) g cur.size (by have hg' : w.drew.heap[g]? = some (.cells cur 5 (0, 0)) := hg; simp [World.shape?, hg']) l h0 (by omega) (by unfold maxLen at hcm; omega) ?_
    intro j x hx
    have := hown.cells (g := g) rfl j (.int .u8 x.toNat) (by simp [Lib.byteCells, hx])
    exact this
  have HV : Hq ((.returned (.string ⟨l.toArray⟩) : Ending) = .returned (.string (st l)) ∧ Below B w (w.drew.freeze ⟨g, 0, none⟩ l.length)) := hq ⟨rfl, Lib.below_freeze (Below.drew (Below.refl B w)) (p := ⟨g, 0, none⟩) hbg _⟩
  clear h hown hg hcs htake hbk
  go_enter Tryz.func51, Tryz.ntmps51
  go_wp2
  go_region
  all_goals (go_wp2; go_ret; exact ⟨rfl, HV.o.2⟩)
set_option maxHeartbeats 2000000 in
set_option maxRecDepth 100000 in
theorem pquoted (B b : Nat) (l t : Bs) (ls : Bool) (n : Int) (w : World) (hT : tabs w) (h : Prn B b l ls n w) (ht : t.length ≤ 1099511627776) (hl : l.length + (qtB t).length ≤ 140737488355328) (hB : B ≤ w.heap.size) :
    Calls Tryz.prog 91 #[.pointer (some ⟨b, 0, none⟩), .string (st t)] w (PrPost B b (l ++ qtB t) ls n w) := by
  have HQ := hq (quote_any (st t) w hT (by rw [st_size]; exact ht))
  have HW := hq (fun W (hb : Below w.heap.size w W) => pstring B b l (qtB t) ls n W (h.grow hb) hl (Nat.le_trans hB hb.size))
  have HP : Hq (∀ W W', Below w.heap.size w W → PrW B b (l ++ qtB t) ls n W W' → PrPost B b (l ++ qtB t) ls n w (.returned (.tuple #[])) W') := hq (fun W W' hb h2 => ⟨rfl, h2.after hb hB⟩)
  generalize PrPost B b (l ++ qtB t) ls n w = PP at *
  unfold qtB at *
  generalize quoteM (st t) = Q at *
  clear h hl hB hT ht
  go_enter Tryz.func91, Tryz.ntmps91
  go_wp2_with fail
  refine HQ.o.mono ?_
  rintro e w1 ⟨rfl, hb1⟩
  have HW1 := hq (HW.o w1 hb1)
  have HP1 := hq (fun W' => HP.o w1 W' hb1)
  clear HQ HW HP hb1
  go_wp2_with fail
  refine HW1.o.mono ?_
  rintro e w2 ⟨⟨m, rfl⟩, h2⟩
  have HV := hq (HP1.o w2 h2)
  clear HW1 HP1 h2
  go_wp2_with fail
  first
    | exact HV.o
    | (go_end0
       exact HV.o)
theorem below_drew' {w w' : World} (h : Below w.drew.heap.size w.drew w') : Below w.heap.size w w' := ⟨h.os, h.tape, h.output, h.size, h.block⟩
theorem blanks_are (k : Nat) : Lib.repeatL [32] k = List.replicate k 32 := by
  induction k with
  | zero => rfl
  | succ k ih => rw [Lib.repeatL, ih]; rfl
set_option maxHeartbeats 2000000 in
set_option maxRecDepth 100000 in
theorem pline (B b : Nat) (l : Bs) (ls : Bool) (n lev : Nat) (w : World) (h : Prn B b l ls (n : Int) w) (hn : n ≤ 1000) (hv : lev ≤ 1000000) (hl : l.length + (lnB ls n lev).length ≤ 140737488355328) (hB : B ≤ w.heap.size) :
    Calls Tryz.prog 146 #[.pointer (some ⟨b, 0, none⟩), .int .i64 (lev : Int)] w (PrPost B b (l ++ lnB ls n lev) ls (n : Int) w) := by
  obtain ⟨c2, c3⟩ := h.cells
  cases ls with
  | false =>
    have HV : Hq (PrPost B b (l ++ lnB false n lev) false (n : Int) w (.returned (.tuple #[])) w) := hq ⟨rfl, by
      have : l ++ lnB false n lev = l := by simp [lnB]
      rw [this]; exact PrW.none h⟩
    generalize PrPost B b (l ++ lnB false n lev) false (n : Int) w = PP at *
    clear h hl
    go_enter Tryz.func146, Tryz.ntmps146
    go_wp2_with fail
    first
      | exact HV.o
      | (go_end0
         exact HV.o)
  | true =>
    have hm8 : n * lev ≤ 1000 * 1000000 := Nat.mul_le_mul hn hv
    have hlen : l.length + (1 + n * lev) ≤ 140737488355328 := by
      have : (lnB true n lev).length = 1 + n * lev := by simp [lnB]; omega
      omega
    have HW := hq (pbyte B b l true (n : Int) 10 w h (by omega) hB)
    have HR := hq (fun W => Tryz.strings_Repeat (st [32]) (n * lev) W (by omega) (by rw [st_size]; simp only [List.length_singleton]; omega))
    have HS := hq (fun W1 W (h1 : PrW B b (l ++ [10]) true (n : Int) w W1) (hb : Below W1.heap.size W1 W) => pstring B b (l ++ [10]) (List.replicate (n * lev) 32) true (n : Int) W (h1.1.grow hb) (by simp; omega) (Nat.le_trans hB (Nat.le_trans h1.2.1.size hb.size)))
    have HP : Hq (∀ W1 W W', PrW B b (l ++ [10]) true (n : Int) w W1 → Below W1.heap.size W1 W → PrW B b (l ++ [10] ++ List.replicate (n * lev) 32) true (n : Int) W W' → PrPost B b (l ++ lnB true n lev) true (n : Int) w (.returned (.tuple #[])) W') := hq (fun W1 W W' h1 hb h2 => ⟨rfl, by
      have : l ++ lnB true n lev = l ++ [10] ++ List.replicate (n * lev) 32 := by simp [lnB]
      rw [this]
      exact h1.trans (h2.after hb (Nat.le_trans hB h1.2.1.size))⟩)
    have hrep : (⟨(Lib.repeatL (st [32]).data.toList (n * lev)).toArray⟩ : ByteArray) = st (List.replicate (n * lev) 32) := by
      show (⟨(Lib.repeatL [32] (n * lev)).toArray⟩ : ByteArray) = _
      rw [blanks_are]
    have hmi : (n : Int) * (lev : Int) = ((n * lev : Nat) : Int) := by simp
    have hwr : IntKind.i64.wrap ((n * lev : Nat) : Int) = ((n * lev : Nat) : Int) := IntWalk.i64_in _ (by omega)
    rw [hrep] at HR
    generalize PrPost B b (l ++ lnB true n lev) true (n : Int) w = PP at *
    generalize List.replicate (n * lev) (32 : UInt8) = R at *
    have HC : Hq (∀ W, PrW B b (l ++ [10]) true (n : Int) w W → W.cell? ⟨b, 3, none⟩ = some (.int .i64 (n : Int))) := hq (fun W hW => hW.1.cells.2)
    clear h hl hB hrep hlen
    generalize n * lev = m at *
    go_enter Tryz.func146, Tryz.ntmps146
    go_wp2_with fail
    refine HW.o.mono ?_
    rintro e w1 ⟨rfl, h1⟩
    have c4 := HC.o _ h1
    have HH := hq h1
    clear HW HC h1 c2 c3
    go_wp2_with fail
    go_region_with (first | (go_at_call 189; refine (HR.o _).mono ?_; rintro e w2 ⟨rfl, hb2⟩; have HB2 := hq (below_drew' hb2)) | (go_at_call 90; refine (HS.o _ _ HH.o (HB2.o)).mono ?_; rintro e w3 ⟨⟨m', rfl⟩, h3⟩; have HV := hq (HP.o _ _ _ HH.o HB2.o h3)))
    all_goals (go_wp2_with fail; first | exact HV.o | (go_end0; exact HV.o))
end Go.Proofs.YtnlkokgekjlmmaaGreatDoor
