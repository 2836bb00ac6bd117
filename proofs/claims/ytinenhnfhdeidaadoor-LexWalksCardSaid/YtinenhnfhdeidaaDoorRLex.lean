/-
  WALKS: the document's among, run, Same, Text of layer 4.
-/
import Derived.Test.YtinenhnfhdeidaaDoorLexAlone
namespace Go.Proofs.YtinenhnfhdeidaaDoor
open Go.RowKit

def inSet (l : ByteArray) (c : Nat) : Nat → Bool
  | 0 => false
  | k + 1 => inSet l c k || (byt l k == c)
/-- the bytes of S are those of which q tells -/
def SetIn (S : ByteArray) (q : Nat → Bool) : Prop := ∀ c : Nat, c < 256 → inSet S c S.size = q c
theorem inBlank : SetIn setBlank isBlank := by unfold SetIn; decide +kernel
theorem inNum : SetIn setNum isNum := by unfold SetIn; decide +kernel
theorem inLet : SetIn setLet isLet := by unfold SetIn; decide +kernel
abbrev setHead : ByteArray := ⟨#[45, 48, 49, 50, 51, 52, 53, 54, 55, 56, 57]⟩
def isHead (c : Nat) : Bool := c == 45 || (decide (48 ≤ c) && decide (c ≤ 57))
theorem inHead : SetIn setHead isHead := by unfold SetIn; decide +kernel
theorem inSet_mono (l : ByteArray) (c : Nat) : ∀ (n k : Nat), k < n → byt l k = c → inSet l c n = true
  | 0, k, h, _ => absurd h (Nat.not_lt_zero _)
  | n + 1, k, h, hb => by
    unfold inSet
    by_cases hk : k = n
    · subst hk; simp [hb]
    · rw [inSet_mono l c n k (by omega) hb]; rfl

set_option maxHeartbeats 400000 in
set_option maxRecDepth 1000000 in
theorem among_any (S : ByteArray) (c : Nat) (w : World) (hS : S.size ≤ 1000) (_ : c < 256) :
    Calls Tryd.prog 40 #[.int .u8 (c : Int), .string S] w fun e w' => e = .returned (.bool (inSet S c S.size)) ∧ w = w' := by
  have HM := hq (fun k h1 h2 => inSet_mono S c S.size k h1 h2)
  go_enter Tryd.func40, Tryd.ntmps40
  go_wp2_with fail
  go_loop [5] (fun i => ∃ k : Nat, k ≤ S.size ∧ i = .int .i64 (k : Int) ∧ Hq (inSet S c k = false)) (fun i => S.size - (intOf i).toNat)
  case atStart => exact ⟨0, Nat.zero_le _, rfl, hq rfl⟩
  case round =>
    obtain ⟨k, hk, rfl, hin⟩ := hrel
    by_cases hks : k < S.size
    · have y0 : ((S[k]'hks).toNat : Int) = (byt S k : Int) := by rw [byt_eq S k hks]
      by_cases he : byt S k = c
      · have HN := hq (HM.o k hks he)
        have e1 : ((byt S k : Int) == (c : Int)) = true := by rw [he]; exact beq_self_eq_true _
        clear he HM hin
        generalize byt S k = d at *
        go_wp2_with fail
        go_ret
        exact ⟨by rw [HN.o]; rfl, rfl⟩
      · have e1 : ((byt S k : Int) == (c : Int)) = false := beq_eq_false_iff_ne.2 (by omega)
        have HN : Hq (inSet S c (k + 1) = false) := hq (by show (inSet S c k || (byt S k == c)) = false; rw [hin.o, Bool.false_or]; exact beq_eq_false_iff_ne.2 he)
        clear he HM hin
        generalize byt S k = d at *
        go_wp2_with fail
        go_round
        case rel => exact ⟨k + 1, by omega, int_eq (by omega), HN⟩
        case measure => simp [intOf]; omega
    · obtain rfl : k = S.size := by omega
      clear HM
      go_wp2_with fail
      go_ret
      exact ⟨by rw [hin.o]; rfl, rfl⟩

set_option maxHeartbeats 400000 in
set_option maxRecDepth 1000000 in
theorem rrun4_any (S : ByteArray) (q : Nat → Bool) (hS : SetIn S q) (hSz : S.size ≤ 1000) (s : ByteArray) (p : Nat) (w : World) (hs : s.size ≤ 1099511627776) (hp : p ≤ s.size) :
    Calls Tryd.prog 41 #[.string s, .int .i64 (p : Int), .string S] w fun e w' => e = .returned (.int .i64 (runTo s q p : Int)) ∧ w = w' := by
  have HI := hq (fun c (hc : c < 256) W => by have := among_any S c W hSz hc; rw [hS c hc] at this; exact this)
  have HS := hq (fun k h1 h2 => @runTo_step s q k h1 h2)
  have HO := hq (fun k h1 => @runTo_stop s q k h1)
  have HE := hq (fun k h1 => @runTo_end s q k h1)
  generalize hR : runTo s q p = R
  have HR := hq hR
  clear hR hS
  go_enter Tryd.func41, Tryd.ntmps41
  go_wp2_with fail
  go_loop [1] (fun i => ∃ k : Nat, k ≤ s.size ∧ i = .int .i64 (k : Int) ∧ Hq (runTo s q k = R)) (fun i => s.size - (intOf i).toNat)
  case atStart => exact ⟨p, hp, rfl, HR⟩
  case round =>
    obtain ⟨k, hk, rfl, hr⟩ := hrel
    clear HR
    by_cases hks : k < s.size
    · have y0 : ((s[k]'hks).toNat : Int) = (byt s k : Int) := by rw [byt_eq s k hks]
      have HC := hq (HI.o (byt s k) (byt_lt s k))
      have HS2 := hq (HS.o k hks)
      have HO2 := hq (HO.o k)
      clear HS HO HE HI
      generalize byt s k = c at *
      cases hqc : q c with
      | true =>
        rw [hqc] at HC
        have HN : Hq (runTo s q (k + 1) = R) := hq (by rw [← HS2.o hqc]; exact hr.o)
        clear hqc HS2 HO2 hr
        go_wp2_with fail
        refine (HC.o _).mono ?_
        rintro e w' ⟨rfl, hw⟩
        obtain rfl := hw
        go_wp2_with fail
        go_round
        case rel => exact ⟨k + 1, by omega, int_eq (by omega), HN⟩
        case measure => simp [intOf]; omega
      | false =>
        rw [hqc] at HC
        have HN : Hq (k = R) := hq (by rw [← HO2.o hqc]; exact hr.o)
        clear hqc HS2 HO2 hr
        go_wp2_with fail
        refine (HC.o _).mono ?_
        rintro e w' ⟨rfl, hw⟩
        obtain rfl := hw
        go_wp2_with fail
        go_ret
        exact ⟨by rw [← HN.o]; rfl, rfl⟩
    · obtain rfl : k = s.size := by omega
      have HN : Hq (s.size = R) := hq (by rw [← HE.o s.size (Nat.le_refl _)]; exact hr.o)
      clear HI HS HO HE hr
      go_wp2_with fail
      go_ret
      exact ⟨by rw [← HN.o]; rfl, rfl⟩

/-- a row of tokens is held by v -/
def Row (w : World) (v : Value) (l : List Tok) : Prop := ∃ B, w.ownsRow B 25 3 v l.length (tokCells l)
set_option maxHeartbeats 1000000 in
set_option maxRecDepth 1000000 in
/-- two rows of the same tokens -/
theorem same4_any (l : List Tok) (v v' : Value) (w : World) (h : Row w v l) (h' : Row w v' l) (hl : l.length ≤ 1000000) :
    Calls Tryd.prog 17 #[v, v'] w fun e w' => e = .returned (.bool true) ∧ Below w.heap.size w w' := by
  obtain ⟨B, h⟩ := h
  obtain ⟨B', h'⟩ := h'
  obtain ⟨vb, vc, rfl⟩ := toks_len h
  obtain ⟨vb', vc', rfl⟩ := toks_len h'
  have H1 := hq h
  have H2 := hq h'
  have e1 : ((l.length : Int) != (l.length : Int)) = false := bne_self_eq_false _
  clear h h'
  go_enter Tryd.func17, Tryd.ntmps17
  go_wp2_with fail
  go_loopw [5] (fun i wr => ∃ k : Nat, k ≤ l.length ∧ i = .int .i64 (k : Int) ∧ Below w.heap.size w wr) (fun i _ => l.length - (intOf i).toNat)
  case atStart => exact ⟨0, Nat.zero_le _, rfl, Below.refl _ _⟩
  case round =>
    obtain ⟨k, hk, rfl, hbr⟩ := hrel
    by_cases hkl : k < l.length
    · obtain ⟨g, cap, hv, _, hg2, hcap, hcm, _, hcell⟩ := toks_cell H1.o (by omega)
      cases hv
      obtain ⟨g', cap', hv, _, hg2', hcap', hcm', _, hcell'⟩ := toks_cell H2.o (by omega)
      cases hv
      have hx : l[k]? = some l[k] := List.getElem?_eq_getElem hkl
      obtain ⟨c1, c2, c3⟩ := hcell k _ hx
      obtain ⟨c1', c2', c3'⟩ := hcell' k _ hx
      unfold maxLen at hcm hcm'
      clear hcell hcell' hx
      generalize l[k] = x at *
      obtain ⟨kd, fr, t2⟩ := x
      simp only at c1 c2 c3 c1' c2' c3'
      have d1 := (hbr.cell (p := ⟨g, k * 3, none⟩) hg2).trans c1
      have d2 := (hbr.cell (p := ⟨g, k * 3 + 1, none⟩) hg2).trans c2
      have d3 := (hbr.cell (p := ⟨g, k * 3 + 2, none⟩) hg2).trans c3
      have d4 := (hbr.cell (p := ⟨g', k * 3, none⟩) hg2').trans c1'
      have d5 := (hbr.cell (p := ⟨g', k * 3 + 1, none⟩) hg2').trans c2'
      have d6 := (hbr.cell (p := ⟨g', k * 3 + 2, none⟩) hg2').trans c3'
      have qe : ∀ W : World, (Op.equalIn 10000 25 (.agg #[.int .i64 (kd : Int), .int .i64 (fr : Int), .int .i64 (t2 : Int)]) (.agg #[.int .i64 (kd : Int), .int .i64 (fr : Int), .int .i64 (t2 : Int)])).run Tryd.prog W = .ok true W := fun W => by
        rw [eq_tok]; simp
      clear c1 c2 c3 c1' c2' c3'
      go_wp2_with fail
      go_quiet (fail)
      go_wp2_with fail
      go_roundw
      case rel => exact ⟨k + 1, by omega, int_eq (by omega), below_drewN hbr _⟩
      case measure => simp [intOf]; omega
    · go_wp2_with fail
      go_ret
      exact ⟨rfl, hbr⟩
end Go.Proofs.YtinenhnfhdeidaaDoor
