/-
  WALKS: the closure of order.Merge; slices.IndexFunc at it.
-/
import Derived.Test.YtccdmoogjcgcfaaOrA
namespace Go.Proofs.Ytccdmoogjcgcfaa
open Go.RowKit Go.WideMaps Go.Maps

set_option maxHeartbeats 1000000 in
set_option maxRecDepth 1000000 in
theorem merge1_any (bW bN gW mN n i : Nat) (l : List Bs) (x : Bs) (z : Int) (w : World) (h1 : w.cell? ⟨bW, 0, none⟩ = some (.slice (some ⟨gW, 0, none⟩) n n)) (h2 : w.cell? ⟨bN, 0, none⟩ = some (.map (some mN))) (hm : MapTo w mN l.length l) (hx : x.length ≤ maxLen) (hi : lastIx x l = some i) (hin : i < n) (hc : w.cell? ⟨gW, i, none⟩ = some (.int .i64 z)) :
    Calls Try.prog 25 #[.string (st x), .pointer (some ⟨bW, 0, none⟩), .pointer (some ⟨bN, 0, none⟩)] w fun e w' => e = .returned (.bool (z == 0)) ∧ w' = w := by
  have hl := look_place0 hm hx
  rw [hi] at hl
  simp only [Option.getD_some] at hl
  have hiz : (i : Int) < (n : Int) := by omega
  clear hm hi
  by_cases hz : z = 0
  · subst hz
    go_enter Try.func25, Try.ntmps25
    go_wp2_with fail
    go_ret
    exact ⟨rfl, rfl⟩
  · have e1 : (z == 0) = false := beq_eq_false_iff_ne.2 hz
    have HZ := hq hz
    clear hz
    go_enter Try.func25, Try.ntmps25
    go_wp2_with fail
    go_ret
    exact ⟨by rw [e1]; rfl, rfl⟩

/-- the first place of which a yes is told -/
def firstIx (p : Bs → Bool) (xs : List Bs) : Int := match xs.findIdx? p with
  | some k => (k : Int)
  | none => -1
theorem firstIx_step {p : Bs → Bool} {xs : List Bs} {k : Nat} (h : k < xs.length) : (xs.drop k).findIdx? p = if p xs[k] = true then some 0 else ((xs.drop (k + 1)).findIdx? p).map (· + 1) := by
  rw [List.drop_eq_getElem_cons h, List.findIdx?_cons]
def shiftO (k : Nat) (o : Option Nat) : Int := match o with
  | some j => ((k + j : Nat) : Int)
  | none => -1
theorem shiftO_succ (k : Nat) (o : Option Nat) : shiftO k (o.map (· + 1)) = shiftO (k + 1) o := by
  cases o with
  | none => rfl
  | some j => show ((k + (j + 1) : Nat) : Int) = ((k + 1 + j : Nat) : Int); omega

set_option maxHeartbeats 1000000 in
set_option maxRecDepth 1000000 in
theorem indexFunc_any (o : Option Addr) (cap : Nat) (xs : List Bs) (bW bN : Nat) (p : Bs → Bool) (w : World) (hl : xs.length ≤ cap) (hc : cap ≤ maxLen) (hin : StrsIn w o xs)
    (hp : ∀ x ∈ xs, Calls Try.prog 25 #[.string (st x), .pointer (some ⟨bW, 0, none⟩), .pointer (some ⟨bN, 0, none⟩)] w fun e w' => e = .returned (.bool (p x)) ∧ w' = w) :
    Calls Try.prog 24 #[.slice o xs.length cap, .func (.func 25) #[] #[.pointer (some ⟨bW, 0, none⟩), .pointer (some ⟨bN, 0, none⟩)]] w fun e w' => e = .returned (.int .i64 (firstIx p xs)) ∧ w' = w := by
  have HIN := hq hin
  have HP := hq hp
  unfold maxLen at hc
  clear hin hp
  have HV : Hq (firstIx p xs = shiftO 0 ((xs.drop 0).findIdx? p)) := hq (by
    unfold firstIx shiftO
    rw [List.drop_zero]
    cases xs.findIdx? p with
    | none => rfl
    | some k => show (k : Int) = ((0 + k : Nat) : Int); omega)
  generalize firstIx p xs = V at *
  go_enter Try.func24, Try.ntmps24
  go_wp2_with fail
  go_loop [8] (fun i => ∃ k : Nat, k ≤ xs.length ∧ i = .int .i64 (k : Int) ∧ Hq (V = shiftO k ((xs.drop k).findIdx? p))) (fun i => xs.length - (intOf i).toNat)
  case atStart => exact ⟨0, Nat.zero_le _, rfl, HV⟩
  case round =>
    obtain ⟨k, hk, rfl, hv⟩ := hrel
    clear HV
    by_cases h : k < xs.length
    · have hkz : (k : Int) < (xs.length : Int) := by omega
      obtain ⟨b, f, rfl, hcell⟩ := HIN.o k h
      have HCL := hq (HP.o xs[k] (List.getElem_mem h))
      have HN : Hq (V = shiftO k (if p xs[k] = true then some 0 else ((xs.drop (k + 1)).findIdx? p).map (· + 1))) := hq (by rw [hv.o, firstIx_step h])
      clear hv
      generalize xs[k] = x at *
      generalize p x = px at *
      go_wp2_with fail
      refine HCL.o.mono ?_
      rintro e w1 ⟨rfl, hw1⟩
      rw [hw1]
      clear hw1 HCL
      cases px with
      | true =>
        have HN2 : Hq (V = (k : Int)) := hq (by rw [HN.o, if_pos rfl]; rfl)
        clear HN
        go_wp2_with fail
        go_ret
        exact ⟨by rw [HN2.o]; rfl, rfl⟩
      | false =>
        have HN2 : Hq (V = shiftO (k + 1) ((xs.drop (k + 1)).findIdx? p)) := hq (by rw [HN.o, if_neg (by simp), shiftO_succ])
        clear HN
        go_wp2_with fail
        go_round
        case rel => exact ⟨k + 1, h, int_eq (by omega), HN2⟩
        case measure => simp [intOf]; omega
    · have hkz : ¬ (k : Int) < (xs.length : Int) := by omega
      have HN : Hq (V = -1) := hq (by rw [hv.o, List.drop_eq_nil_of_le (by omega)]; rfl)
      clear hv
      go_wp2_with fail
      go_ret
      exact ⟨by rw [HN.o]; rfl, rfl⟩
end Go.Proofs.Ytccdmoogjcgcfaa
