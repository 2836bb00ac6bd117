/-
  WALKS: the document's Right, Index and Compare of paths.
-/
import Derived.Test.YtabfojdieegklaaGreatDoorPxH
import Derived.Test.YtabfojdieegklaaGreatDoorPxJ
import Derived.Test.YtabfojdieegklaaGreatDoorPxG
import Derived.Test.YtabfojdieegklaaGreatDoorRefV
namespace Go.Proofs.YtabfojdieegklaaGreatDoor
open Go.RowKit

set_option maxHeartbeats 2000000 in
set_option maxRecDepth 1000000 in
theorem rright7_any (p : SRow) (W : World) (hp : p.ok W) (hm : Room p.l) : Calls Tryz.prog 24 #[p.v] W (BoolPost (pgoodB p.l) W) := by
  obtain ⟨o, cap, l⟩ := p
  have HPO := hq hp
  have hpc := hp.le
  have hpm := hp.cp
  unfold maxLen at hpm
  have HVL := hq (fun x (hx : x ∈ l) WW => rvalid_any (st x) WW (by rw [st_size]; exact hm x hx))
  have HP : Hq (∀ b W', pgoodB l = b → Below W.heap.size W W' → BoolPost (pgoodB l) W (.returned (.bool b)) W') := hq (fun b W' h1 h2 => ⟨by rw [h1], h2⟩)
  have HM : Hq (pgoodB l = (decide (l.length ≤ 64) && l.all fun x => (valid (st x)).2)) := hq rfl
  simp only at hpc hpm ⊢
  unfold SRow.v
  generalize BoolPost (pgoodB l) W = PP at *
  clear hp hm
  simp only
  go_enter Tryz.func24, Tryz.ntmps24
  go_wp2_with fail
  go_loopg [3, 4, 5, 12] l.length (fun gk u _ _ _ wr => ∃ i : Nat, i + gk ≤ l.length ∧ l.length ≤ i + gk ∧ u = .int .i64 (i : Int) ∧ Hq ((l.take i).all (fun x => (valid (st x)).2) = true) ∧ Hq (Below W.heap.size W wr))
  case atStart => exact ⟨0, by omega, by omega, rfl, hq (by simp), hq (Below.refl _ _)⟩
  case round =>
    obtain ⟨i, hi1, hi2, rfl, hall, hb⟩ := hrel
    by_cases hil : i < l.length
    · have hiz : (i : Int) < (l.length : Int) := by omega
      obtain ⟨b, f, rfl, c0⟩ := strs_at HPO.o.rd hb.o hil
      simp only at c0
      have HC := hq (HVL.o l[i] (List.getElem_mem hil))
      have HT := hq (all_take (fun x => (valid (st x)).2) hil)
      have HBD := hq (@all_bad _ l i (fun x => (valid (st x)).2) hil)
      generalize l[i] = x at *
      generalize hV : valid (st x) = V at *
      obtain ⟨vn, vb⟩ := V
      simp only at HC HT HBD
      clear HVL hV HPO
      cases vb with
      | true =>
        clear HP HBD
        go_wp2_with fail
        refine (HC.o _).mono ?_
        rintro e W2 ⟨rfl, rfl⟩
        clear HC
        go_wp2_with fail
        go_roundg (gk - 1)
        case measure => omega
        case rel => exact ⟨i + 1, by omega, by omega, int_eq (by omega), hq (by rw [HT.o, hall.o]; rfl), hb⟩
      | false =>
        have HV := hq (HP.o false wr (by rw [HM.o, HBD.o rfl, Bool.and_false]) hb.o)
        clear HP HBD HT hb
        go_wp2_with fail
        refine (HC.o _).mono ?_
        rintro e W2 ⟨rfl, rfl⟩
        clear HC
        go_wp2_with fail
        first | exact HV.o | (go_ret; exact HV.o)
    · have hiz : ¬ (i : Int) < (l.length : Int) := by omega
      have hall2 := hall.o
      rw [List.take_of_length_le (by omega)] at hall2
      by_cases h64 : l.length ≤ 64
      · have h64z : (l.length : Int) ≤ 64 := by omega
        have hd : decide ((l.length : Int) ≤ 64) = true := decide_eq_true h64z
        have HV := hq (HP.o true wr (by rw [HM.o, hall2, decide_eq_true h64]; rfl) hb.o)
        clear HP HVL HPO hall hb hall2
        go_wp2_with fail
        first | exact HV.o | (go_ret; exact HV.o)
      · have h64z : ¬ (l.length : Int) ≤ 64 := by omega
        have hd : decide ((l.length : Int) ≤ 64) = false := decide_eq_false h64z
        have HV := hq (HP.o false wr (by rw [HM.o, decide_eq_false h64]; rfl) hb.o)
        clear HP HVL HPO hall hb hall2
        go_wp2_with fail
        first | exact HV.o | (go_ret; exact HV.o)

/-! ### Index -/
theorem decFrom_step {s : ByteArray} {k v : Nat} (hk : k < s.size) (hd : 48 ≤ byt s k ∧ byt s k ≤ 57) : Lib.decFrom v (s.data.toList.drop k) = Lib.decFrom (v * 10 + (byt s k - 48)) (s.data.toList.drop (k + 1)) := by
  have hl : k < s.data.toList.length := by rw [Array.length_toList]; exact hk
  rw [List.drop_eq_getElem_cons hl]
  have h1 := bytT s k hl
  simp only [Lib.decFrom, Lib.digitVal]
  rw [h1, if_pos hd]
theorem pow_bd {v k : Nat} (h : v < 10 ^ k) (hk : k ≤ 8) : v ≤ 99999999 := by
  have := Nat.pow_le_pow_right (show 0 < 10 by omega) hk
  have e : (10 : Nat) ^ 8 = 100000000 := by decide
  omega
theorem pow_next {v k d : Nat} (h : v < 10 ^ k) (hd : d < 10) : v * 10 + d < 10 ^ (k + 1) := by rw [Nat.pow_succ]; omega
set_option maxHeartbeats 2000000 in
set_option maxRecDepth 1000000 in
theorem rindex_any (s : ByteArray) (w : World) (hs : s.size ≤ maxLen) : Calls Tryz.prog 21 #[.string s] w (IdxPost s.data.toList w) := by
  unfold maxLen at hs
  have hsl : s.data.toList.length = s.size := by rw [Array.length_toList]; rfl
  have HNO : Hq (indexM s.data.toList = none → IdxPost s.data.toList w (.returned (.tuple #[.int .i64 0, .bool false])) w) := hq (fun h => ⟨by rw [h]; rfl, Below.refl _ _⟩)
  have HYES : Hq (∀ n, indexM s.data.toList = some n → IdxPost s.data.toList w (.returned (.tuple #[.int .i64 ((n : Nat) : Int), .bool true])) w) := hq (fun n h => ⟨by rw [h]; rfl, Below.refl _ _⟩)
  generalize IdxPost s.data.toList w = PP at *
  go_enter Tryz.func21, Tryz.ntmps21
  by_cases h0 : s.data.toList = []
  · have hz : (s.size : Int) < 1 := by have : s.size = 0 := by rw [← hsl, h0]; rfl
                                       omega
    have HV := hq (HNO.o (by unfold indexM; rw [if_pos (.inl h0)]))
    clear HNO HYES h0
    go_wp2_with fail
    exact HV.o
  have hz : 0 < s.size := by rw [← hsl]; exact List.length_pos_iff.2 h0
  have hz1 : ¬ (s.size : Int) < 1 := by omega
  by_cases h9 : 9 < s.size
  · have hz9 : (9 : Int) < (s.size : Int) := by omega
    have HV := hq (HNO.o (by unfold indexM; rw [if_pos (.inr (.inl (by rw [hsl]; exact h9)))]))
    clear HNO HYES h0
    go_wp2_with fail
    exact HV.o
  have hz9 : ¬ (9 : Int) < (s.size : Int) := by omega
  have HNC := hq (fun (k : Nat) (hk : k < s.size) (h : ¬ (48 ≤ byt s k ∧ byt s k ≤ 57)) => index_no h0 (by rw [hsl]; exact hk) h)
  have hy0 : ((s[0]'hz).toNat : Int) = (byt s 0 : Int) := by rw [byt_eq s 0 hz]
  by_cases h1 : s.data.toList.head? = some 48 ∧ s.data.toList ≠ [48]
  · have HV := hq (HNO.o (by unfold indexM; rw [if_pos (.inr (.inr h1))]))
    have e3 : ((s[0].toNat : Nat) : Int) = 48 := (head_byt hz).1 h1.1
    have hz2 : (1 : Int) < (s.size : Int) := by
      by_cases e : s.size = 1
      · exfalso
        refine h1.2 ?_
        cases hh : s.data.toList with
        | nil => exact absurd hh h0
        | cons b r =>
          rw [hh] at hsl
          have hr : r = [] := List.eq_nil_of_length_eq_zero (by simp at hsl; omega)
          have hb := h1.1
          rw [hh] at hb
          rw [hr, show b = 48 by simpa using hb]
      · omega
    have hc0 : (byt s 0 : Int) = 48 := by rw [← hy0]; exact e3
    generalize byt s 0 = c0 at *
    have hc1 : ((c0 : Int) == 48) = true := beq_iff_eq.2 (by omega)
    clear HNO HYES HNC h1 h0 e3
    go_wp2_with fail
    exact HV.o
  have HEX : Hq (indexM s.data.toList = Lib.decFrom 0 s.data.toList) := hq (by
    unfold indexM Lib.decNat
    rw [if_neg (not_or.2 ⟨h0, not_or.2 ⟨by omega, h1⟩⟩), if_neg (by rw [List.isEmpty_iff]; exact h0)])
  have e2 : (1 : Int) < (s.size : Int) → ((byt s 0 : Int) == 48) = false := fun hh => beq_eq_false_iff_ne.2 (fun e => h1 ⟨(head_byt hz).2 (by rw [hy0]; exact e), fun e5 => by
    rw [e5] at hsl; simp at hsl; omega⟩)
  have e3 : (¬ (1 : Int) < (s.size : Int)) ∨ ((1 : Int) < (s.size : Int) ∧ ((byt s 0 : Int) == 48) = false) := by
    by_cases h : (1 : Int) < (s.size : Int)
    · exact .inr ⟨h, e2 h⟩
    · exact .inl h
  clear h1 h0 e2
  generalize byt s 0 = c0 at hy0 e3
  rcases e3 with e3 | ⟨e3, e4⟩
  all_goals
    go_wp2_with fail
    go_loop [4, 5] (fun n i => ∃ k v : Nat, k ≤ s.size ∧ i = .int .i64 (k : Int) ∧ n = .int .i64 (v : Int) ∧ v < 10 ^ k ∧ Hq (indexM s.data.toList = Lib.decFrom v (s.data.toList.drop k))) (fun _ i => s.size - (intOf i).toNat)
    case atStart => exact ⟨0, 0, Nat.zero_le _, rfl, rfl, by decide, hq (by rw [HEX.o]; rfl)⟩
    case round =>
      obtain ⟨k, v, hk, rfl, rfl, hv, hix⟩ := hrel
      by_cases h : k < s.size
      · have hkz : (k : Int) < (s.size : Int) := by omega
        have hy : ((s[k]'h).toNat : Int) = (byt s k : Int) := by rw [byt_eq s k h]
        have hx := byt_lt s k
        have hvb := pow_bd hv (by omega)
        by_cases hdig : 48 ≤ byt s k ∧ byt s k ≤ 57
        · have HST := hq (hix.o.trans (decFrom_step h hdig))
          have HPN := hq (pow_next (d := byt s k - 48) hv (by omega))
          have hwr := dig_sub hdig.1 hdig.2
          clear hix HNC HNO HYES HEX hv
          generalize byt s k = c at *
          obtain ⟨hd1, hd2⟩ := hdig
          have hcz1 : ¬ (c : Int) < 48 := by omega
          have hcz2 : ¬ (57 : Int) < (c : Int) := by omega
          go_wp2_with fail
          go_round
          case rel => exact ⟨k + 1, v * 10 + (c - 48), by omega, int_eq (by omega), int_eq (by omega), HPN.o, HST⟩
          case measure => simp [intOf]; omega
        · have HV := hq (HNO.o (HNC.o k h hdig))
          clear hix HNC HNO HYES HEX hv
          generalize byt s k = c at *
          have hcz : (c : Int) < 48 ∨ (¬ (c : Int) < 48 ∧ (57 : Int) < (c : Int)) := by omega
          rcases hcz with hcz | ⟨hcz, hcz2⟩
          · go_wp2_with fail
            exact HV.o
          · go_wp2_with fail
            exact HV.o
      · obtain rfl : k = s.size := by omega
        have hkz : ¬ (s.size : Int) < (s.size : Int) := by omega
        have h2 := hix.o
        rw [List.drop_of_length_le (by omega)] at h2
        have HV := hq (HYES.o v h2)
        clear hix HNC HNO HYES HEX hv h2
        go_wp2_with fail
        exact HV.o

/-! ### Compare -/
theorem less_cmp (x y : Bs) : Op.bytesLess x y = true ↔ Lib.compareBytes x y = -1 := by
  induction x generalizing y with
  | nil => cases y with
    | nil => simp [Op.bytesLess, Lib.compareBytes]
    | cons b y => simp [Op.bytesLess, Lib.compareBytes]
  | cons a x ih => cases y with
    | nil => simp [Op.bytesLess, Lib.compareBytes]
    | cons b y =>
      unfold Op.bytesLess Lib.compareBytes
      by_cases h1 : a < b
      · simp [h1]
      · by_cases h2 : b < a
        · have h3 : ¬ a = b := fun e => by subst e; exact h1 h2
          simp [h1, h2, h3]
        · have h3 : a = b := by
            rw [UInt8.lt_iff_toNat_lt] at h1 h2
            exact UInt8.toNat_inj.1 (by omega)
          subst h3
          simp [ih y]
theorem less_not {x y : Bs} (h : Op.bytesLess x y = false) (hn : x ≠ y) : Lib.compareBytes x y = 1 := by
  have h1 : ¬ Lib.compareBytes x y = -1 := fun e => by rw [(less_cmp x y).2 e] at h; cases h
  have h2 : ¬ Lib.compareBytes x y = 0 := fun e => hn (cmpB_eq e)
  have h3 := cmpB_bd x y
  have h4 : -1 ≤ Lib.compareBytes x y ∧ Lib.compareBytes x y ≤ 1 := h3
  omega
set_option maxHeartbeats 2000000 in
set_option maxRecDepth 1000000 in
theorem rcompS_any (o o' : Option Addr) (cap cap' : Nat) (la lb : List Bs) (w : World) (hl : la.length ≤ cap) (hc : cap ≤ maxLen) (hin : StrsIn w o la) (_hl' : lb.length ≤ cap') (_hc' : cap' ≤ maxLen) (hin' : StrsIn w o' lb) :
    Calls Tryz.prog 26 #[.slice o la.length cap, .slice o' lb.length cap'] w (PcPost la lb w) := by
  have HA := hq hin
  have HB := hq hin'
  unfold maxLen at hc _hc'
  clear hin hin'
  have HP : Hq (∀ (c : Int) w', lexM cmpB la lb = c → Below w.heap.size w w' → PcPost la lb w (.returned (.int .i64 c)) w') := hq (fun c w' h1 h2 => ⟨by rw [h1], h2⟩)
  generalize PcPost la lb w = PP at *
  go_enter Tryz.func26, Tryz.ntmps26
  go_wp2_with fail
  go_loopw [5] (fun i wr => ∃ k : Nat, k ≤ la.length ∧ k ≤ lb.length ∧ i = .int .i64 (k : Int) ∧ Hq (lexM cmpB la lb = lexM cmpB (la.drop k) (lb.drop k)) ∧ Hq (Below w.heap.size w wr)) (fun i _ => la.length - (intOf i).toNat)
  case atStart => exact ⟨0, Nat.zero_le _, Nat.zero_le _, rfl, hq rfl, hq (Below.refl _ _)⟩
  case round =>
    obtain ⟨k, hk, hk', rfl, ht, hb⟩ := hrel
    by_cases h : k < la.length
    · by_cases h2 : k < lb.length
      · have hkz : (k : Int) < (la.length : Int) := by omega
        have hkz2 : (k : Int) < (lb.length : Int) := by omega
        obtain ⟨b, f, rfl, hcell⟩ := HA.o k h
        obtain ⟨b', f', rfl, hcell'⟩ := HB.o k h2
        have c0 := (hb.o.cell (cell_blk hcell)).trans hcell
        have c1 := (hb.o.cell (cell_blk hcell')).trans hcell'
        have HN := hq (fun (e : la[k] = lb[k]) => ht.o.trans (lex_eq h h2 (by rw [e]; exact cmpB_self _)))
        have HE := hq (fun (e : ¬ Lib.compareBytes la[k] lb[k] = 0) => ht.o.trans (lex_ne h h2 e))
        clear hcell hcell' ht HA HB
        generalize la[k] = x at *
        generalize lb[k] = y at *
        cases h3 : Op.bytesLess x y with
        | true =>
          have e1 := (less_cmp x y).1 h3
          have HV := hq (HP.o (-1) wr.drew ((HE.o (by omega)).trans e1) hb.o.drew)
          clear HN HE HP e1
          go_wp2_with fail
          go_region
          go_wp2_with fail
          exact HV.o
        | false =>
          by_cases hne : x = y
          case neg =>
            have e5 : (x == y) = false := beq_eq_false_iff_ne.2 hne
            have e1 := less_not h3 hne
            have HV := hq (HP.o 1 wr.drew.drew ((HE.o (by omega)).trans e1) hb.o.drew.drew)
            clear HN HE HP hne e1
            go_wp2_with fail
            go_region
            go_wp2_with fail
            go_region
            go_wp2_with fail
            exact HV.o
          case pos =>
            have e5 : (x == y) = true := beq_iff_eq.2 hne
            have HN2 := hq (HN.o hne)
            clear HN HE HP hne
            go_wp2_with fail
            go_region
            go_wp2_with fail
            go_region
            go_wp2_with fail
            go_roundw
            case rel => exact ⟨k + 1, h, h2, int_eq (by omega), HN2, hq hb.o.drew.drew⟩
            case measure => simp [intOf]; omega
      · have hkz : (k : Int) < (la.length : Int) := by omega
        have hkz2 : ¬ (k : Int) < (lb.length : Int) := by omega
        have hgt : (lb.length : Int) < (la.length : Int) := by omega
        have hlt : ¬ (la.length : Int) < (lb.length : Int) := by omega
        have HV := hq (HP.o 1 wr (ht.o.trans ((lex_len (by omega)).trans (by unfold Lib.compareInt; rw [if_neg hlt, if_pos hgt]))) hb.o)
        clear ht HP
        go_wp2_with fail
        exact HV.o
    · have hkz : ¬ (k : Int) < (la.length : Int) := by omega
      obtain rfl : k = la.length := by omega
      by_cases h2 : la.length < lb.length
      · have hlt : (la.length : Int) < (lb.length : Int) := by omega
        have HV := hq (HP.o (-1) wr (ht.o.trans ((lex_len (by omega)).trans (by unfold Lib.compareInt; rw [if_pos hlt]))) hb.o)
        clear ht HP
        go_wp2_with fail
        exact HV.o
      · have hlt : ¬ (la.length : Int) < (lb.length : Int) := by omega
        have hgt : ¬ (lb.length : Int) < (la.length : Int) := by omega
        have HV := hq (HP.o 0 wr (ht.o.trans ((lex_len (by omega)).trans (by unfold Lib.compareInt; rw [if_neg hlt, if_neg hgt]))) hb.o)
        clear ht HP
        go_wp2_with fail
        exact HV.o
end Go.Proofs.YtabfojdieegklaaGreatDoor
