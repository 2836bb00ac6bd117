/-
  WALK: the law PointerOrders.
-/
import Derived.Test.YtabfojdieegklaaGreatDoorPx2
namespace Go.Proofs.YtabfojdieegklaaGreatDoor
open Go.RowKit

theorem lex_take (n : Nat) : ∀ a : List Bs, lexM cmpB (a.take n) a = if n < a.length then -1 else 0 := by
  induction n with
  | zero => intro a; cases a with
    | nil => rfl
    | cons x a => simp [lexM]
  | succ n ih => intro a; cases a with
    | nil => rfl
    | cons x a =>
      simp only [List.take_succ_cons, lexM, cmpB_self, List.length_cons]
      rw [if_neg (by simp), ih a]
      by_cases h : n < a.length
      · rw [if_pos h, if_pos (by omega)]
      · rw [if_neg h, if_neg (by omega)]
theorem byte_bd (x y : UInt8) : -1 ≤ (if x < y then -1 else if y < x then (1 : Int) else 0) ∧ (if x < y then -1 else if y < x then (1 : Int) else 0) ≤ 1 := by
  by_cases h : x < y
  · rw [if_pos h]; omega
  · rw [if_neg h]
    by_cases h2 : y < x
    · rw [if_pos h2]; omega
    · rw [if_neg h2]; omega
theorem cmpB_bd (a b : Bs) : -1 ≤ cmpB a b ∧ cmpB a b ≤ 1 := by
  rw [cmpB_lex]
  exact lexM_bd a b (fun x _ y => byte_bd x y)
set_option maxHeartbeats 16000000 in
set_option maxRecDepth 1000000 in
theorem porders_any (ao bo co : Option Addr) (ac bc cc : Nat) (a b c : List Bs) (n : Int) (w : World) (hE : Env w) (hM : mx w) (hn : -9223372036854775808 ≤ n ∧ n ≤ 9223372036854775807)
    (ha : (⟨ao, ac, a⟩ : SRow).ok w) (hb : (⟨bo, bc, b⟩ : SRow).ok w) (hc : (⟨co, cc, c⟩ : SRow).ok w) (hat : Room a) (hbt : Room b) (hct : Room c) :
    Calls Tryz.prog 7 #[.slice ao a.length ac, .slice bo b.length bc, .slice co c.length cc, .int .i64 n] w (BPost true w) := by
  have HSM := hq ((smallP_any w hE hM).mono (R' := fun e w' => e = .returned (.bool true) ∧ Below w.heap.size w w') (fun e w' h => h))
  have HSA := hq (fun V (hV : Below w.heap.size w V) => short_any ao ac a V ha.le ha.cp (ha.grow hV).rd hat)
  have HSB := hq (fun V (hV : Below w.heap.size w V) => short_any bo bc b V hb.le hb.cp (hb.grow hV).rd hbt)
  have HSC := hq (fun V (hV : Below w.heap.size w V) => short_any co cc c V hc.le hc.cp (hc.grow hV).rd hct)
  have HAB := hq (fun V (hV : Below w.heap.size w V) => pcompX_any ao bo ac bc a b V ha.le ha.cp (ha.grow hV).rd hb.le hb.cp (hb.grow hV).rd)
  have HBA := hq (fun V (hV : Below w.heap.size w V) => pcompX_any bo ao bc ac b a V hb.le hb.cp (hb.grow hV).rd ha.le ha.cp (ha.grow hV).rd)
  have HBC := hq (fun V (hV : Below w.heap.size w V) => pcompX_any bo co bc cc b c V hb.le hb.cp (hb.grow hV).rd hc.le hc.cp (hc.grow hV).rd)
  have HAC := hq (fun V (hV : Below w.heap.size w V) => pcompX_any ao co ac cc a c V ha.le ha.cp (ha.grow hV).rd hc.le hc.cp (hc.grow hV).rd)
  have HCU := hq (fun (m : Nat) (hm : m ≤ a.length) V (hV : Below w.heap.size w V) => pcompX_any ao ao ac ac (a.take m) a V (by have h1 : a.length ≤ ac := ha.le; rw [List.length_take]; omega) ha.cp (fun i hi => by
    have hi2 : i < a.length := by rw [List.length_take] at hi; omega
    obtain ⟨g, f, h1, h2⟩ := (ha.grow hV).rd i hi2
    exact ⟨g, f, h1, by rw [List.getElem_take]; exact h2⟩) ha.le ha.cp (ha.grow hV).rd)
  have HSM2 := hq (fun V (hV : Below w.heap.size w V) => rsame_any ao bo ac bc a b V ha.le ha.cp (ha.grow hV).rd hb.le hb.cp (hb.grow hV).rd)
  have B1 := ordr_cmpB.lex.swap a b (fun _ _ => trivial) (fun _ _ => trivial)
  have B2 := ordr_cmpB.lex.tr a b c (fun _ _ => trivial) (fun _ _ => trivial) (fun _ _ => trivial)
  have B3 : -1 ≤ lexM cmpB a b ∧ lexM cmpB a b ≤ 1 := lexM_bd a b (fun x _ y => cmpB_bd x y)
  have B4 : lexM cmpB a b = 0 ↔ a = b := ⟨fun h => lexM_zero a b (fun x _ y _ e => cmpB_eq e) h, fun h => by subst h; have := ordr_cmpB.lex.swap a a (fun _ _ => trivial) (fun _ _ => trivial); omega⟩
  have HP : Hq (∀ W', Below w.heap.size w W' → BPost true w (.returned (.bool true)) W') := hq (fun W' h => ⟨rfl, h⟩)
  generalize BPost true w = PP at *
  have hal : a.length ≤ ac := ha.le
  have hbl : b.length ≤ bc := hb.le
  have hcl : c.length ≤ cc := hc.le
  have hacp : ac ≤ maxLen := ha.cp
  have hbcp : bc ≤ maxLen := hb.cp
  have hccp : cc ≤ maxLen := hc.cp
  unfold maxLen at hacp hbcp hccp
  clear hE hM ha hb hc hat hbt hct
  go_enter Tryz.func7, Tryz.ntmps7
  go_upto_region 1 with fail
  go_wp2_with fail
  refine HSM.o.mono ?_
  rintro e w1 ⟨rfl, hb1⟩
  clear HSM
  go_wp2_with fail
  refine (HSA.o w1 hb1).mono ?_
  rintro e w2 ⟨⟨va, rfl, hva⟩, rfl⟩
  have HVA := hq hva
  clear HSA hva
  cases va with
  | false =>
    have HV := hq (HP.o w2 hb1)
    clear HSB HSC HAB HBA HBC HAC HP
    go_wp2_with fail
    exact HV.o
  | true =>
  go_wp2_with fail
  refine (HSB.o _ hb1).mono ?_
  rintro e w3 ⟨⟨vb, rfl, hvb⟩, rfl⟩
  clear HSB hvb
  cases vb with
  | false =>
    have HV := hq (HP.o _ hb1)
    clear HSC HAB HBA HBC HAC HP
    go_wp2_with fail
    exact HV.o
  | true =>
  go_wp2_with fail
  refine (HSC.o _ hb1).mono ?_
  rintro e w4 ⟨⟨vc, rfl, hvc⟩, rfl⟩
  clear HSC hvc
  cases vc with
  | false =>
    have HV := hq (HP.o _ hb1)
    clear HAB HBA HBC HAC HP
    go_wp2_with fail
    exact HV.o
  | true =>
  go_wp2_with fail
  refine (HAB.o _ hb1).mono ?_
  rintro e w5 ⟨rfl, hb5⟩
  replace hb1 := below_trans hb1 hb5
  clear hb5
  go_wp2_with fail
  refine (HBC.o _ hb1).mono ?_
  rintro e w6 ⟨rfl, hb6⟩
  replace hb1 := below_trans hb1 hb6
  clear hb6
  go_wp2_with fail
  refine (HAC.o _ hb1).mono ?_
  rintro e w7 ⟨rfl, hb7⟩
  replace hb1 := below_trans hb1 hb7
  clear hb7
  go_wp2_with fail
  obtain ⟨m, hm, hml⟩ : ∃ m : Nat, min (max n 0) (a.length : Int) = (m : Int) ∧ m ≤ a.length := ⟨(min (max n 0) (a.length : Int)).toNat, by omega, by omega⟩
  rw [hm, Int.toNat_natCast]
  have HCC := HCU.o m hml _ hb1
  rw [List.length_take, Nat.min_eq_left hml] at HCC
  refine HCC.mono ?_
  rintro e w8 ⟨rfl, hb8⟩
  replace hb1 := below_trans hb1 hb8
  have hpt := lex_take m a
  clear hb8 HCC HCU
  have HAS := HBA.o _ hb1
  have HSS := hq (fun V (hV : Below w.heap.size w V) => HSM2.o V hV)
  have hsm : decide (a = b) = (lexM cmpB a b == 0) := by rw [Bool.eq_iff_iff, decide_eq_true_eq, beq_iff_eq]; exact B4.symm
  unfold PcPost at HAS
  rw [hsm] at HSS
  clear HAB HBA HBC HAC HSM2 B4 hsm HVA hm
  generalize lexM cmpB a b = X at *
  generalize lexM cmpB b c = Y at *
  generalize lexM cmpB a c = Z at *
  generalize lexM cmpB b a = X' at *
  generalize lexM cmpB (a.take m) a = P at *
  have e1 : (-1 : Int) ≤ X := B3.1
  have e2 : X ≤ 1 := B3.2
  have e3 : X' = -X := by omega
  subst e3
  go_wp2_with fail
  all_goals
    refine HAS.mono ?_
    rintro e w9 ⟨rfl, hb9⟩
    have hb2 := below_trans hb1 hb9
    have hdec : (0 < X ∨ 0 < Y ∨ Z ≤ 0) := by by_cases h1 : 0 < X; exact .inl h1; by_cases h2 : 0 < Y; exact .inr (.inl h2); exact .inr (.inr (B2 (by omega) (by omega)))
    have hor : (decide (0 < X) || decide (0 < Y) || decide (Z ≤ 0)) = true := by simp only [Bool.or_eq_true, decide_eq_true_eq]; omega
    clear HAS hb9 B1 B2 B3
    rcases hdec with h1 | h1
  all_goals go_wp2_with fail
  all_goals
    refine (HSS.o _ hb2).mono ?_
    rintro e w10 ⟨rfl, hb10⟩
    have HV := hq (HP.o _ (below_trans hb2 hb10))
    go_wp2_with fail
  all_goals first
    | exact HV.o
    | (have hv := HV.o; simpa using hv)
    | (exfalso; omega)
    | (have hv := HV.o; simp at hv ⊢; simp at hor; simp [hor]; exact hv)
    | (have hv := HV.o; rw [← hor] at hv; simpa using hv)
end Go.Proofs.YtabfojdieegklaaGreatDoor
