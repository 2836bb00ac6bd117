/-
  WALKS: value.rows, of numbers and of trees.
-/
import Derived.Test.YtfibmmmbpfnccaaGreatDoorVtQ
namespace Go.Proofs.YtfibmmmbpfnccaaGreatDoor
open Go.RowKit

/-- numbers lie behind an address -/
def NatsIn (w : World) (o : Option Addr) (l : List Nat) : Prop := ∀ i (h : i < l.length), ∃ b f, o = some ⟨b, f, none⟩ ∧ w.cell? ⟨b, f + i, none⟩ = some (.int .i64 (l[i] : Int))
theorem NatsIn.grow {w w' : World} {o : Option Addr} {l : List Nat} (h : NatsIn w o l) (hb : Below w.heap.size w w') : NatsIn w' o l := fun i hi => by
  obtain ⟨b, f, h1, h2⟩ := h i hi
  exact ⟨b, f, h1, (hb.cell (p := ⟨b, f + i, none⟩) (cell_blk h2)).trans h2⟩
theorem nats_of_own {w : World} {B e : Nat} {o : Option Addr} {c : Nat} {l : List Nat} (h : w.ownsRow B e 1 (.slice o l.length c) l.length (natC l)) : NatsIn w o l := fun i hi => by
  rcases h.2 with ⟨h1, h0⟩ | ⟨g, cap, cur, hv, _⟩
  · omega
  · injection hv with ho
    have hc := h.cells (g := g) (by rw [ho]; rfl) i _ (natC_at hi)
    rw [Addr.add_lit, Nat.zero_add] at hc
    exact ⟨g, 0, ho, by rw [Nat.zero_add]; exact hc⟩
theorem lexM_drop {α β : Type} (f : α → β → Int) {a : List α} {b : List β} {k : Nat} (ha : k < a.length) (hb : k < b.length) : lexM f (a.drop k) (b.drop k) = if f a[k] b[k] ≠ 0 then f a[k] b[k] else lexM f (a.drop (k + 1)) (b.drop (k + 1)) := by
  rw [List.drop_eq_getElem_cons ha, List.drop_eq_getElem_cons hb]
  rfl
theorem lexM_end {α β : Type} (f : α → β → Int) {a : List α} {b : List β} {k : Nat} (h : k = min a.length b.length) : lexM f (a.drop k) (b.drop k) = Lib.compareInt (a.length : Int) (b.length : Int) := by
  unfold Lib.compareInt
  rcases Nat.lt_trichotomy a.length b.length with h1 | h1 | h1
  · rw [List.drop_eq_nil_of_le (show a.length ≤ k by omega), List.drop_eq_getElem_cons (show k < b.length by omega), if_pos (by omega)]
    rfl
  · rw [List.drop_eq_nil_of_le (show a.length ≤ k by omega), List.drop_eq_nil_of_le (show b.length ≤ k by omega), if_neg (by omega), if_neg (by omega)]
    rfl
  · rw [List.drop_eq_nil_of_le (show b.length ≤ k by omega), List.drop_eq_getElem_cons (show k < a.length by omega), if_neg (by omega), if_pos (by omega)]
    rfl
set_option maxHeartbeats 8000000 in
set_option maxRecDepth 1000000 in
theorem rowsI_any {w0 : World} {F : Nat} {caps : Array Value} (f : Nat → Nat → Int) (hcf : ∀ (args : Array Value) (w : World), (callFunc F args).run Tryz.prog w = .ok (.enter F args) w)
    (oa ob : Option Addr) (ca cb : Nat) (a b : List Nat) (hla : a.length ≤ 1000000) (_hlb : b.length ≤ 1000000) (ha : NatsIn w0 oa a) (hb : NatsIn w0 ob b)
    (hcmp : ∀ i ∈ a, ∀ j ∈ b, ∀ W, Below w0.heap.size w0 W → Calls Tryz.prog F (#[.int .i64 (i : Int), .int .i64 (j : Int)] ++ caps) W (IPost (f i j) W)) (W : World) (hW : Below w0.heap.size w0 W) :
    Calls Tryz.prog 152 #[.slice oa a.length ca, .slice ob b.length cb, .func (.func F) #[] caps] W (IPost (lexM f a b) W) := by
  have HP : Hq (∀ (m : Int) W', m = lexM f a b → Below W.heap.size W W' → IPost (lexM f a b) W (.returned (.int .i64 m)) W') := hq (fun m W' h h2 => ⟨by rw [h], h2⟩)
  have HL0 : Hq (lexM f (a.drop 0) (b.drop 0) = lexM f a b) := hq rfl
  have HC := hq hcmp
  have HA := hq ha
  have HB := hq hb
  have HW := hq hW
  generalize IPost (lexM f a b) W = PP at *
  generalize hLX : lexM f a b = LX at *
  clear hLX hcmp ha hb hW
  go_enter Tryz.func152, Tryz.ntmps152
  go_wp2_with fail
  go_loopw [7, 8, 14] (fun _ _ i wr => ∃ k : Nat, k ≤ min a.length b.length ∧ i = .int .i64 (k : Int) ∧ Hq (lexM f (a.drop k) (b.drop k) = LX) ∧ Hq (Below W.heap.size W wr)) (fun _ _ i _ => min a.length b.length - (intOf i).toNat)
  case atStart => exact ⟨0, Nat.zero_le _, rfl, HL0, hq (Below.refl _ _)⟩
  case round =>
    obtain ⟨k, hk, rfl, hl, hb⟩ := hrel
    by_cases h : k < min a.length b.length
    · have h1 : k < a.length := by omega
      have h2 : k < b.length := by omega
      have hz : (k : Int) < min (a.length : Int) (b.length : Int) := by omega
      have hz1 : (k : Int) < (a.length : Int) := by omega
      have hz2 : (k : Int) < (b.length : Int) := by omega
      have hbw := HW.o.trans (hb.o.mono HW.o.size)
      obtain ⟨ba, fa, hoa, i0⟩ := ((HA.o.grow HW.o).grow hb.o) k h1
      obtain ⟨bb, fb, hob, j0⟩ := ((HB.o.grow HW.o).grow hb.o) k h2
      have HL := hq (hl.o.symm.trans (lexM_drop f h1 h2))
      have HCC := hq (fun V (hV : Below wr.heap.size wr V) => HC.o a[k] (List.getElem_mem h1) b[k] (List.getElem_mem h2) V (hbw.trans (hV.mono hbw.size)))
      clear hl HA HB HC hbw
      generalize a[k] = x at *
      generalize b[k] = y at *
      subst hoa hob
      generalize f x y = c at *
      go_wp2_with fail
      go_region_with (refine (HCC.o wr.drew (Below.refl _ _).drew).mono ?_; rintro e w2 ⟨rfl, hb2⟩; have HB2 := hq (below_trans hb.o (below_trans (Below.refl wr.heap.size wr).drew hb2)))
      all_goals
        clear i0 j0 HCC
        go_simp
        by_cases hc : c = 0
        · have e0 : (c != 0) = false := by rw [bne, beq_iff_eq.2 hc]; rfl
          have HN := hq (HL.o.trans (if_neg (fun h => h hc)))
          clear hc HL
          go_wp2_with fail
          go_roundw
          case rel => exact ⟨k + 1, by omega, int_eq (by omega), hq HN.o.symm, HB2⟩
          case measure => simp [intOf]; omega
        · have e0 : (c != 0) = true := bne_iff_ne.2 hc
          have HV := hq (HP.o c w2 (HL.o.trans (if_pos hc)).symm HB2.o)
          clear hc HL HP
          go_wp2_with fail
          exact HV.o
    · have hz : ¬ (k : Int) < min (a.length : Int) (b.length : Int) := by omega
      have HV := hq (HP.o (Lib.compareInt (a.length : Int) (b.length : Int)) wr (by rw [← hl.o, lexM_end f (by omega)]) hb.o)
      have HCI := hq (fun V => Tryz.cmp_Compare_int (a.length : Int) (b.length : Int) V)
      clear HP HA HB HC hl
      generalize Lib.compareInt (a.length : Int) (b.length : Int) = cc at *
      go_wp2_with fail
      refine (HCI.o _).mono ?_
      rintro e w2 ⟨rfl, h2⟩
      obtain rfl := h2.symm
      go_wp2_with fail
      exact HV.o
/-- trees lie behind an address -/
def ItemsIn (w : World) (o : Option Addr) (l : List Vt) : Prop := ∀ i (h : i < l.length), ∃ b f, o = some ⟨b, f, none⟩ ∧ ItemAt w b (f + i * 4) l[i]
theorem ItemsIn.grow {w w' : World} {o : Option Addr} {l : List Vt} (h : ItemsIn w o l) (hb : Below w.heap.size w w') : ItemsIn w' o l := fun i hi => by
  obtain ⟨b, f, h1, h2⟩ := h i hi
  exact ⟨b, f, h1, h2.grow hb⟩
set_option maxHeartbeats 8000000 in
set_option maxRecDepth 1000000 in
theorem rowsV_any {w0 : World} {F : Nat} {caps : Array Value} (f : Vt → Vt → Int) (hcf : ∀ (args : Array Value) (w : World), (callFunc F args).run Tryz.prog w = .ok (.enter F args) w)
    (oa ob : Option Addr) (ca cb : Nat) (a b : List Vt) (hla : a.length ≤ 1000000) (_hlb : b.length ≤ 1000000) (ha : ItemsIn w0 oa a) (hb : ItemsIn w0 ob b)
    (hcmp : ∀ i ∈ a, ∀ j ∈ b, ∀ W, Below w0.heap.size w0 W → Calls Tryz.prog F (#[i.v, j.v] ++ caps) W (IPost (f i j) W)) (W : World) (hW : Below w0.heap.size w0 W) :
    Calls Tryz.prog 113 #[.slice oa a.length ca, .slice ob b.length cb, .func (.func F) #[] caps] W (IPost (lexM f a b) W) := by
  have HP : Hq (∀ (m : Int) W', m = lexM f a b → Below W.heap.size W W' → IPost (lexM f a b) W (.returned (.int .i64 m)) W') := hq (fun m W' h h2 => ⟨by rw [h], h2⟩)
  have HL0 : Hq (lexM f (a.drop 0) (b.drop 0) = lexM f a b) := hq rfl
  have HC := hq hcmp
  have HA := hq ha
  have HB := hq hb
  have HW := hq hW
  generalize IPost (lexM f a b) W = PP at *
  generalize hLX : lexM f a b = LX at *
  clear hLX hcmp ha hb hW
  go_enter Tryz.func113, Tryz.ntmps113
  go_wp2_with fail
  go_loopw [7, 8, 14] (fun _ _ i wr => ∃ k : Nat, k ≤ min a.length b.length ∧ i = .int .i64 (k : Int) ∧ Hq (lexM f (a.drop k) (b.drop k) = LX) ∧ Hq (Below W.heap.size W wr)) (fun _ _ i _ => min a.length b.length - (intOf i).toNat)
  case atStart => exact ⟨0, Nat.zero_le _, rfl, HL0, hq (Below.refl _ _)⟩
  case round =>
    obtain ⟨k, hk, rfl, hl, hb⟩ := hrel
    by_cases h : k < min a.length b.length
    · have h1 : k < a.length := by omega
      have h2 : k < b.length := by omega
      have hz : (k : Int) < min (a.length : Int) (b.length : Int) := by omega
      have hz1 : (k : Int) < (a.length : Int) := by omega
      have hz2 : (k : Int) < (b.length : Int) := by omega
      have hbw := HW.o.trans (hb.o.mono HW.o.size)
      obtain ⟨ba, fa, hoa, i0, i1, i2, i3⟩ := ((HA.o.grow HW.o).grow hb.o) k h1
      obtain ⟨bb, fb, hob, j0, j1, j2, j3⟩ := ((HB.o.grow HW.o).grow hb.o) k h2
      have HL := hq (hl.o.symm.trans (lexM_drop f h1 h2))
      have HCC := hq (fun V (hV : Below wr.heap.size wr V) => HC.o a[k] (List.getElem_mem h1) b[k] (List.getElem_mem h2) V (hbw.trans (hV.mono hbw.size)))
      clear hl HA HB HC hbw
      generalize a[k] = x at *
      generalize b[k] = y at *
      subst hoa hob
      generalize f x y = c at *
      go_wp2_with fail
      go_region_with (refine (HCC.o wr.drew (Below.refl _ _).drew).mono ?_; rintro e w2 ⟨rfl, hb2⟩; have HB2 := hq (below_trans hb.o (below_trans (Below.refl wr.heap.size wr).drew hb2)))
      all_goals
        clear i0 j0 i1 j1 i2 j2 i3 j3 HCC
        go_simp
        by_cases hc : c = 0
        · have e0 : (c != 0) = false := by rw [bne, beq_iff_eq.2 hc]; rfl
          have HN := hq (HL.o.trans (if_neg (fun h => h hc)))
          clear hc HL
          go_wp2_with fail
          go_roundw
          case rel => exact ⟨k + 1, by omega, int_eq (by omega), hq HN.o.symm, HB2⟩
          case measure => simp [intOf]; omega
        · have e0 : (c != 0) = true := bne_iff_ne.2 hc
          have HV := hq (HP.o c w2 (HL.o.trans (if_pos hc)).symm HB2.o)
          clear hc HL HP
          go_wp2_with fail
          exact HV.o
    · have hz : ¬ (k : Int) < min (a.length : Int) (b.length : Int) := by omega
      have HV := hq (HP.o (Lib.compareInt (a.length : Int) (b.length : Int)) wr (by rw [← hl.o, lexM_end f (by omega)]) hb.o)
      have HCI := hq (fun V => Tryz.cmp_Compare_int (a.length : Int) (b.length : Int) V)
      clear HP HA HB HC hl
      generalize Lib.compareInt (a.length : Int) (b.length : Int) = cc at *
      go_wp2_with fail
      refine (HCI.o _).mono ?_
      rintro e w2 ⟨rfl, h2⟩
      obtain rfl := h2.symm
      go_wp2_with fail
      exact HV.o
end Go.Proofs.YtfibmmmbpfnccaaGreatDoor
