/-
  WALKS: the document's ends, comment, colon, head.
-/
import Derived.Test.YtekihjffefokjaaDoorYlRA
import Derived.Test.YtekihjffefokjaaDoorRUnqF
import Derived.Test.YtekihjffefokjaaDoorYlH
namespace Go.Proofs.YtekihjffefokjaaDoor
open Go.RowKit

theorem cmt_zero (v : ByteArray) : cmt v 0 = false := rfl
theorem cmtTo_one (v : ByteArray) : cmtTo v 0 = cmtTo v 1 := cmtTo_next (cmt_zero v)
/-- the head of a line that begins here: the key's length, the kind -/
def headM (v : ByteArray) : Nat × Nat := if sgn v 0 45 = true then (0, 3) else if 0 < (keyM v 0).1 then ((keyM v 0).1, 4) else (0, 5)

set_option maxHeartbeats 1000000 in
set_option maxRecDepth 1000000 in
theorem rends_any (v : ByteArray) (w : World) (hv : v.size ≤ 1099511627776) :
    Calls Tryd.prog 42 #[.string v] w fun e w' => e = .returned (.int .i64 (look v 0 : Int)) ∧ Below w.heap.size w w' := by
  have HL : Hq (look v 0 = if (qtd v 0).2.2 = true then (qtd v 0).1 else 0) := hq rfl
  generalize look v 0 = R at *
  by_cases h0 : v.size = 0
  · have HN : Hq (R = 0) := hq (by rw [HL.o]; unfold qtd; rw [if_pos h0.symm]; rfl)
    have e1 : ((v.size : Int) == 0) = true := by rw [h0]; rfl
    clear HL h0
    go_enter Tryd.func42, Tryd.ntmps42
    go_wp2_with fail
    go_ret
    exact ⟨by rw [HN.o]; rfl, Below.refl _ _⟩
  · have hlt : 0 < v.size := by omega
    have e1 : ((v.size : Int) == 0) = false := beq_eq_false_iff_ne.2 (by omega)
    have y0 : ((v[0]'hlt).toNat : Int) = (byt v 0 : Int) := by rw [byt_eq v 0 hlt]
    by_cases h34 : byt v 0 = 34
    · have e2 : ((byt v 0 : Int) == 34) = true := beq_int_true h34
      have e3 : ((byt v 0 : Int) == 39) = false := by rw [h34]; rfl
      have hq1 : qtd v 0 = ((scanM v 0).1, true, (scanM v 0).2.1 == 0) := by unfold qtd; rw [if_neg (by omega), if_pos h34]
      have HE := hq (fun W => rend_any v 0 W hv (by omega))
      have he : endM v 0 = ((scanM v 0).1, (scanM v 0).2.1) := by unfold endM; rw [if_neg (by omega)]; rfl
      have HN : Hq (R = if ((scanM v 0).2.1 == 0) = true then (scanM v 0).1 else 0) := hq (by rw [HL.o, hq1])
      rw [he] at HE
      clear HL hq1 he h34 h0
      generalize scanM v 0 = x at *
      obtain ⟨k, r, l⟩ := x
      simp only at HE HN
      generalize byt v 0 = c0 at *
      by_cases hr : r = 0
      · subst hr
        go_enter Tryd.func42, Tryd.ntmps42
        go_wp2_with fail
        refine (HE.o _).mono ?_
        rintro e w1 ⟨rfl, hb1⟩
        clear HE
        go_wp2_with fail
        go_ret
        exact ⟨by rw [HN.o]; rfl, hb1⟩
      · have hr2 : (r != 0) = true := bne_iff_ne.2 hr
        have HN2 : Hq (R = 0) := hq (by rw [HN.o, if_neg (by simpa using hr)])
        clear HN hr
        go_enter Tryd.func42, Tryd.ntmps42
        go_wp2_with fail
        refine (HE.o _).mono ?_
        rintro e w1 ⟨rfl, hb1⟩
        clear HE
        go_wp2_with fail
        go_ret
        exact ⟨by rw [HN2.o]; rfl, hb1⟩
    · have e2 : ((byt v 0 : Int) == 34) = false := beq_int_false h34
      by_cases h39 : byt v 0 = 39
      · have e3 : ((byt v 0 : Int) == 39) = true := beq_int_true h39
        have hq1 : qtd v 0 = ((sglM v 0).2.1, true, (sglM v 0).2.2 == 0) := by unfold qtd; rw [if_neg (by omega), if_neg h34, if_pos h39]; rfl
        have HE := hq (fun W => rsingle_any v 0 W hv (by omega))
        have HN : Hq (R = if ((sglM v 0).2.2 == 0) = true then (sglM v 0).2.1 else 0) := hq (by rw [HL.o, hq1])
        clear HL hq1 h34 h39 h0
        generalize sglM v 0 = x at *
        obtain ⟨l, k, r⟩ := x
        simp only at HE HN
        generalize byt v 0 = c0 at *
        by_cases hr : r = 0
        · subst hr
          go_enter Tryd.func42, Tryd.ntmps42
          go_wp2_with fail
          refine (HE.o _).mono ?_
          rintro e w1 ⟨rfl, rfl⟩
          clear HE
          go_wp2_with fail
          go_ret
          exact ⟨by rw [HN.o]; rfl, Below.refl _ _⟩
        · have hr2 : (r != 0) = true := bne_iff_ne.2 hr
          have HN2 : Hq (R = 0) := hq (by rw [HN.o, if_neg (by simpa using hr)])
          clear HN hr
          go_enter Tryd.func42, Tryd.ntmps42
          go_wp2_with fail
          refine (HE.o _).mono ?_
          rintro e w1 ⟨rfl, rfl⟩
          clear HE
          go_wp2_with fail
          go_ret
          exact ⟨by rw [HN2.o]; rfl, Below.refl _ _⟩
      · have e3 : ((byt v 0 : Int) == 39) = false := beq_int_false h39
        have hq1 : qtd v 0 = (0, false, false) := by unfold qtd; rw [if_neg (by omega), if_neg h34, if_neg h39]
        have HN : Hq (R = 0) := hq (by rw [HL.o, hq1]; rfl)
        clear hq1
        clear HL h34 h39 h0
        generalize byt v 0 = c0 at *
        go_enter Tryd.func42, Tryd.ntmps42
        go_wp2_with fail
        go_ret
        exact ⟨by rw [HN.o]; rfl, Below.refl _ _⟩

set_option maxHeartbeats 1000000 in
set_option maxRecDepth 1000000 in
theorem rcomment_any (v : ByteArray) (p : Nat) (w : World) (hv : v.size ≤ 1099511627776) (hp : p ≤ v.size) :
    Calls Tryd.prog 44 #[.string v, .int .i64 (p : Int)] w fun e w' => e = .returned (.int .i64 (cmtTo v p : Int)) ∧ w = w' := by
  have HP : Hq (cmtTo v p = cmtTo v (max p 1)) := hq (by
    by_cases h0 : p = 0
    · subst h0; exact cmtTo_one v
    · rw [show max p 1 = p by omega])
  have hm : max (p : Int) 1 = ((max p 1 : Nat) : Int) := by omega
  have hm1 : 1 ≤ max p 1 := by omega
  have hm2 : max p 1 ≤ v.size + 1 := by omega
  generalize cmtTo v p = R at *
  generalize max p 1 = q0 at *
  go_enter Tryd.func44, Tryd.ntmps44
  go_wp2_with fail
  go_loop [5] (fun t => ∃ q : Nat, 1 ≤ q ∧ q ≤ v.size + 1 ∧ t = .int .i64 (q : Int) ∧ Hq (R = cmtTo v q)) (fun t => v.size - (intOf t).toNat)
  case atStart => exact ⟨q0, hm1, hm2, rfl, HP⟩
  case round =>
    obtain ⟨q, hq0, hq1, rfl, hqr⟩ := hrel
    clear HP hm hm1 hm2
    by_cases h : q < v.size
    · have y0 : ((v[q]'h).toNat : Int) = (byt v q : Int) := by rw [byt_eq v q h]
      by_cases h35 : byt v q = 35
      · have e1 : ((byt v q : Int) == 35) = true := beq_int_true h35
        have hl : q - 1 < v.size := by omega
        have y1 : ((v[q - 1]'hl).toNat : Int) = (byt v (q - 1) : Int) := by rw [byt_eq v (q - 1) hl]
        have hz : ((q : Int) - 1).toNat = q - 1 := by omega
        by_cases h32 : byt v (q - 1) = 32
        · have e2 : ((byt v (q - 1) : Int) == 32) = true := beq_int_true h32
          have HN : Hq (R = q) := hq (hqr.o.trans (cmtTo_hit h (by unfold cmt; rw [h35, h32, decide_eq_true (show 0 < q by omega)]; rfl)))
          clear hqr h35 h32
          generalize byt v q = c0 at *
          generalize byt v (q - 1) = c1 at *
          go_wp2_with fail
          go_ret
          exact ⟨by rw [HN.o]; rfl, rfl⟩
        · have e2 : ((byt v (q - 1) : Int) == 32) = false := beq_int_false h32
          have HN : Hq (R = cmtTo v (q + 1)) := hq (hqr.o.trans (cmtTo_next (by unfold cmt; rw [beq_eq_false_iff_ne.2 h32, Bool.and_false])))
          clear hqr h35 h32
          generalize byt v q = c0 at *
          generalize byt v (q - 1) = c1 at *
          go_wp2_with fail
          go_round
          case rel => exact ⟨q + 1, by omega, by omega, int_eq (by omega), HN⟩
          case measure => simp [intOf]; omega
      · have e1 : ((byt v q : Int) == 35) = false := beq_int_false h35
        have HN : Hq (R = cmtTo v (q + 1)) := hq (hqr.o.trans (cmtTo_next (high_cmt h35)))
        clear hqr h35
        generalize byt v q = c0 at *
        go_wp2_with fail
        go_round
        case rel => exact ⟨q + 1, by omega, by omega, int_eq (by omega), HN⟩
        case measure => simp [intOf]; omega
    · have HN : Hq (R = v.size) := hq (hqr.o.trans (cmtTo_end h))
      have h' : ¬ (q : Int) < (v.size : Int) := by omega
      clear hqr h
      go_wp2_with fail
      go_ret
      exact ⟨by rw [HN.o]; rfl, rfl⟩

set_option maxHeartbeats 1000000 in
set_option maxRecDepth 1000000 in
theorem rcolon_any (s : ByteArray) (p : Nat) (w : World) (hs : s.size ≤ 1099511627776) (hp : p ≤ s.size) :
    Calls Tryd.prog 73 #[.string s, .int .i64 (p : Int)] w fun e w' => e = .returned (.bool (sgn s p 58)) ∧ w = w' := by
  have HS : Hq (sgn s p 58 = (decide (p < s.size) && (byt s p == 58) && (decide (p + 1 = s.size) || byt s (p + 1) == 32))) := hq rfl
  generalize sgn s p 58 = R at *
  by_cases h : p < s.size
  · have y0 : ((s[p]'h).toNat : Int) = (byt s p : Int) := by rw [byt_eq s p h]
    by_cases hb : byt s p = 58
    · have e1 : ((byt s p : Int) == 58) = true := beq_int_true hb
      by_cases hl : p + 1 = s.size
      · have hR : R = true := by rw [HS.o, decide_eq_true h, decide_eq_true hl, beq_iff_eq.2 hb]; rfl
        have e2 : ((p : Int) + 1 == (s.size : Int)) = true := beq_iff_eq.2 (by omega)
        have HR := hq hR
        clear HS hb hR hl
        generalize byt s p = c0 at *
        go_enter Tryd.func73, Tryd.ntmps73
        go_wp2_with fail
        go_ret
        exact ⟨by rw [HR.o]; rfl, rfl⟩
      · have e2 : ((p : Int) + 1 == (s.size : Int)) = false := beq_eq_false_iff_ne.2 (by omega)
        have h1 : p + 1 < s.size := by omega
        have y1 : ((s[p + 1]'h1).toNat : Int) = (byt s (p + 1) : Int) := by rw [byt_eq s (p + 1) h1]
        have hR : R = (byt s (p + 1) == 32) := by rw [HS.o, decide_eq_true h, decide_eq_false hl, beq_iff_eq.2 hb]; rfl
        have h32 : ((byt s (p + 1) : Int) == 32) = (byt s (p + 1) == 32) := by
          by_cases hx : byt s (p + 1) = 32
          · rw [hx]; rfl
          · rw [beq_eq_false_iff_ne.2 hx]; exact beq_eq_false_iff_ne.2 (by omega)
        rw [← hR] at h32
        clear HS hb hR hl
        generalize byt s (p + 1) = c1 at *
        generalize byt s p = c0 at *
        cases R with
        | true =>
          go_enter Tryd.func73, Tryd.ntmps73
          go_wp2_with fail
          go_ret
          exact ⟨rfl, rfl⟩
        | false =>
          go_enter Tryd.func73, Tryd.ntmps73
          go_wp2_with fail
          go_ret
          exact ⟨rfl, rfl⟩
    · have e1 : ((byt s p : Int) == 58) = false := beq_int_false hb
      have hR : R = false := by rw [HS.o, beq_eq_false_iff_ne.2 hb]; simp
      have HR := hq hR
      clear HS hb hR
      generalize byt s p = c0 at *
      go_enter Tryd.func73, Tryd.ntmps73
      go_wp2_with fail
      go_ret
      exact ⟨by rw [HR.o]; rfl, rfl⟩
  · have hR : R = false := by rw [HS.o, decide_eq_false h]; rfl
    have HR := hq hR
    have h' : ¬ (p : Int) < (s.size : Int) := by omega
    clear HS hR h
    go_enter Tryd.func73, Tryd.ntmps73
    go_wp2_with fail
    go_ret
    exact ⟨by rw [HR.o]; rfl, rfl⟩

/-- the search for a colon ahead of a comment -/
theorem keyTo_walk {v : ByteArray} {q : Nat} (h : q < cmtTo v q) (hs : q ≤ v.size) : q < v.size ∧ cmt v q = false := by
  have hle := cmtTo_le v q hs
  refine ⟨by omega, ?_⟩
  cases hc : cmt v q with
  | false => rfl
  | true => rw [cmtTo_hit (by omega) hc] at h; omega
theorem keyTo_out {v : ByteArray} {q : Nat} (h : ¬ q < cmtTo v q) (hs : q ≤ v.size) : keyTo v 0 q = 0 := by
  by_cases hq' : q < v.size
  · have hg := cmtTo_ge v q hs
    have e : cmtTo v q = q := by omega
    exact keyTo_cmt hq' (by have := cmtTo_is v q hs (by omega); rwa [e] at this)
  · exact keyTo_end hq'

set_option maxHeartbeats 2000000 in
set_option maxRecDepth 1000000 in
theorem rhead_any (v : ByteArray) (w : World) (hv : v.size ≤ 1099511627776) (h0 : 0 < v.size) (hk : (keyM v 0).2 = true) :
    Calls Tryd.prog 43 #[.string v] w fun e w' => e = .returned (.tuple #[.int .i64 ((headM v).1 : Int), .int .i64 ((headM v).2 : Int)]) ∧ Below w.heap.size w w' := by
  have y0 : ((v[0]'h0).toNat : Int) = (byt v 0 : Int) := by rw [byt_eq v 0 h0]
  have HH : Hq (headM v = if sgn v 0 45 = true then (0, 3) else if 0 < (keyM v 0).1 then ((keyM v 0).1, 4) else (0, 5)) := hq rfl
  have HS : Hq (sgn v 0 45 = ((byt v 0 == 45) && (decide (0 + 1 = v.size) || byt v (0 + 1) == 32))) := hq (by unfold sgn; rw [decide_eq_true h0, Bool.true_and])
  generalize headM v = R at *
  by_cases h45 : byt v 0 = 45 ∧ (v.size = 1 ∨ byt v 1 = 32)
  · obtain ⟨h45, h1⟩ := h45
    have hsg : sgn v 0 45 = true := by
      rw [HS.o, h45]
      rcases h1 with h1 | h1
      · rw [h1]; rfl
      · rw [show byt v (0 + 1) = 32 from h1]; simp
    have HN : Hq (R = (0, 3)) := hq (HH.o.trans (if_pos hsg))
    have e1 : ((byt v 0 : Int) == 45) = true := beq_int_true h45
    clear HH HS hsg h45 hk
    generalize byt v 0 = c0 at *
    by_cases hl : v.size = 1
    · have e2 : ((v.size : Int) == 1) = true := beq_int_true hl
      clear h1 hl
      go_enter Tryd.func43, Tryd.ntmps43
      go_wp2_with fail
      go_ret2
      exact ⟨by rw [HN.o]; rfl, Below.refl _ _⟩
    · have e2 : ((v.size : Int) == 1) = false := beq_int_false hl
      have h32 := h1.resolve_left hl
      have hl1 : 1 < v.size := by omega
      have y1 : ((v[1]'hl1).toNat : Int) = (byt v 1 : Int) := by rw [byt_eq v 1 hl1]
      have e3 : ((byt v 1 : Int) == 32) = true := beq_int_true h32
      clear h1 hl h32
      generalize byt v 1 = c1 at *
      go_enter Tryd.func43, Tryd.ntmps43
      go_wp2_with fail
      go_ret2
      exact ⟨by rw [HN.o]; rfl, Below.refl _ _⟩
  · have hsg : sgn v 0 45 = false := by
      rw [HS.o]
      cases hx : (byt v 0 == 45) with
      | false => rfl
      | true =>
        rw [beq_iff_eq] at hx
        have h1 : ¬ (v.size = 1 ∨ byt v 1 = 32) := fun h => h45 ⟨hx, h⟩
        rw [decide_eq_false (fun h => h1 (.inl h.symm)), beq_eq_false_iff_ne.2 (fun h => h1 (.inr h))]; rfl
    have HN : Hq (R = if 0 < (keyM v 0).1 then ((keyM v 0).1, 4) else (0, 5)) := hq (HH.o.trans (if_neg (by rw [hsg]; exact Bool.false_ne_true)))
    clear HH HS hsg
    by_cases h34 : byt v 0 = 34 ∨ byt v 0 = 39
    · have e45 : ((byt v 0 : Int) == 45) = false := beq_eq_false_iff_ne.2 (by omega)
      have HE := hq (fun W => rends_any v W hv)
      have hqb := qtd_bd v 0 (by omega)
      have hq2 : (qtd v 0).2.1 = true := by
        unfold qtd
        rw [if_neg (by omega)]
        by_cases h : byt v 0 = 34
        · rw [if_pos h]
        · rw [if_neg h, if_pos (h34.resolve_left h)]
      have hkm : keyM v 0 = if (qtd v 0).2.2 = true ∧ sgn v (qtd v 0).1 58 = true then ((qtd v 0).1, true) else (0, (qtd v 0).2.2) := by unfold keyM; rw [if_pos hq2]
      have hok : (qtd v 0).2.2 = true := by
        cases hc : (qtd v 0).2.2 with
        | true => rfl
        | false =>
          rw [hkm, hc, if_neg (fun h => by cases h.1)] at hk
          exact hk
      have hlk : look v 0 = (qtd v 0).1 := by unfold look; rw [if_pos hok]
      rw [hlk] at HE
      have hpos := (hqb.2.2 hok).1
      have hle := hqb.2.1
      have HN2 : Hq (R = if sgn v (qtd v 0).1 58 = true then ((qtd v 0).1, 4) else (0, 5)) := hq (by
        by_cases hc : sgn v (qtd v 0).1 58 = true
        · have e : keyM v 0 = ((qtd v 0).1, true) := hkm.trans (if_pos ⟨hok, hc⟩)
          rw [HN.o, e, if_pos hc]; exact if_pos hpos
        · have e : keyM v 0 = (0, (qtd v 0).2.2) := hkm.trans (if_neg (fun h => hc h.2))
          rw [HN.o, e, if_neg hc]; exact if_neg (Nat.lt_irrefl 0))
      clear HN hkm hq2 hqb hlk hk hok h45
      generalize (qtd v 0).1 = k at *
      have HC := hq (fun W => rcolon_any v k W hv hle)
      cases hsg : sgn v k 58 with
      | true =>
        rw [hsg] at HC HN2
        have HN3 : Hq (R = (k, 4)) := hq (HN2.o.trans (if_pos rfl))
        clear HN2 hsg
        rcases h34 with h34 | h39
        · have e1 : ((byt v 0 : Int) == 34) = true := beq_int_true h34
          clear h34
          generalize byt v 0 = c0 at *
          go_enter Tryd.func43, Tryd.ntmps43
          go_wp2_with fail
          refine (HE.o _).mono ?_
          rintro e w1 ⟨rfl, hb1⟩
          clear HE
          go_wp2_with fail
          refine (HC.o _).mono ?_
          rintro e w2 ⟨rfl, rfl⟩
          clear HC
          go_wp2_with fail
          go_ret2
          exact ⟨by rw [HN3.o]; rfl, hb1⟩
        · have e1 : ((byt v 0 : Int) == 34) = false := beq_eq_false_iff_ne.2 (by omega)
          have e2 : ((byt v 0 : Int) == 39) = true := beq_int_true h39
          clear h39
          generalize byt v 0 = c0 at *
          go_enter Tryd.func43, Tryd.ntmps43
          go_wp2_with fail
          refine (HE.o _).mono ?_
          rintro e w1 ⟨rfl, hb1⟩
          clear HE
          go_wp2_with fail
          refine (HC.o _).mono ?_
          rintro e w2 ⟨rfl, rfl⟩
          clear HC
          go_wp2_with fail
          go_ret2
          exact ⟨by rw [HN3.o]; rfl, hb1⟩
      | false =>
        rw [hsg] at HC HN2
        have HN3 : Hq (R = (0, 5)) := hq (HN2.o.trans (if_neg Bool.false_ne_true))
        clear HN2 hsg
        rcases h34 with h34 | h39
        · have e1 : ((byt v 0 : Int) == 34) = true := beq_int_true h34
          clear h34
          generalize byt v 0 = c0 at *
          go_enter Tryd.func43, Tryd.ntmps43
          go_wp2_with fail
          refine (HE.o _).mono ?_
          rintro e w1 ⟨rfl, hb1⟩
          clear HE
          go_wp2_with fail
          refine (HC.o _).mono ?_
          rintro e w2 ⟨rfl, rfl⟩
          clear HC
          go_wp2_with fail
          go_ret2
          exact ⟨by rw [HN3.o]; rfl, hb1⟩
        · have e1 : ((byt v 0 : Int) == 34) = false := beq_eq_false_iff_ne.2 (by omega)
          have e2 : ((byt v 0 : Int) == 39) = true := beq_int_true h39
          clear h39
          generalize byt v 0 = c0 at *
          go_enter Tryd.func43, Tryd.ntmps43
          go_wp2_with fail
          refine (HE.o _).mono ?_
          rintro e w1 ⟨rfl, hb1⟩
          clear HE
          go_wp2_with fail
          refine (HC.o _).mono ?_
          rintro e w2 ⟨rfl, rfl⟩
          clear HC
          go_wp2_with fail
          go_ret2
          exact ⟨by rw [HN3.o]; rfl, hb1⟩
    · have e34 : ((byt v 0 : Int) == 34) = false := beq_eq_false_iff_ne.2 (by omega)
      have e39 : ((byt v 0 : Int) == 39) = false := beq_eq_false_iff_ne.2 (by omega)
      have hq2 : (qtd v 0).2.1 = false := by
        unfold qtd
        rw [if_neg (by omega), if_neg (fun h => h34 (.inl h)), if_neg (fun h => h34 (.inr h))]
      have hkm : keyM v 0 = if byt v 0 = 91 ∨ byt v 0 = 123 then (0, true) else (keyTo v 0 0, true) := by unfold keyM; rw [if_neg (by rw [hq2]; exact Bool.false_ne_true)]
      have HC := hq (fun W => rcomment_any v 0 W hv (by omega))
      have hce : 1 ≤ cmtTo v 0 := by rw [cmtTo_one]; exact cmtTo_ge v 1 h0
      have hcl : cmtTo v 0 ≤ v.size := cmtTo_le v 0 (by omega)
      have HCM : Hq (cmtTo v 0 = cmtTo v 1) := hq (cmtTo_one v)
      have HK1 : Hq (keyTo v 0 0 = keyTo v 0 1) := hq (keyTo_next h0 (cmt_zero v) (fun h => by omega))
      generalize cmtTo v 0 = C at *
      -- the item's sign does not stand there
      have key : ((byt v 0 : Int) == 45) = false ∨ (((byt v 0 : Int) == 45) = true ∧ 1 < v.size ∧ byt v 1 ≠ 32) := by
        by_cases hx : byt v 0 = 45
        · refine .inr ⟨beq_int_true hx, ?_, fun h => h45 ⟨hx, .inr h⟩⟩
          have : ¬ v.size = 1 := fun h => h45 ⟨hx, .inl h⟩
          omega
        · exact .inl (beq_int_false hx)
      clear h45 h34 hq2 hk
      have HV : Hq (R = if 0 < (keyM v 0).1 then ((keyM v 0).1, 4) else (0, 5)) := HN
      clear HN
      by_cases h91 : byt v 0 = 91 ∨ byt v 0 = 123
      · have HN : Hq (R = (0, 5)) := hq (by rw [HV.o, hkm, if_pos h91, if_neg (Nat.lt_irrefl 0)])
        have e45 : ((byt v 0 : Int) == 45) = false := beq_eq_false_iff_ne.2 (by omega)
        have key2 : ((byt v 0 : Int) != 91) = false ∨ (((byt v 0 : Int) != 91) = true ∧ ((byt v 0 : Int) != 123) = false) := by
          rcases h91 with h | h
          · left; rw [h]; rfl
          · right; rw [h]; exact ⟨rfl, rfl⟩
        clear HV hkm HK1 h91 key HCM
        generalize byt v 0 = c0 at *
        have h1c : (1 : Int) < (C : Int) ∨ ¬ (1 : Int) < (C : Int) := by omega
        rcases h1c with h1c | h1c
        · rcases key2 with k1 | ⟨k1, k2⟩
          all_goals
            go_enter Tryd.func43, Tryd.ntmps43
            go_wp2_with fail
            refine (HC.o _).mono ?_
            rintro e w1 ⟨rfl, rfl⟩
            clear HC
            go_wp2_with fail
            go_loop [6] (fun t => t = .int .i64 1) (fun t => 0)
            case atStart => rfl
            case round =>
              subst hrel
              go_wp2_with fail
              go_ret2
              exact ⟨by rw [HN.o]; rfl, Below.refl _ _⟩
        · go_enter Tryd.func43, Tryd.ntmps43
          go_wp2_with fail
          refine (HC.o _).mono ?_
          rintro e w1 ⟨rfl, rfl⟩
          clear HC
          go_wp2_with fail
          go_loop [6] (fun t => t = .int .i64 1) (fun t => 0)
          case atStart => rfl
          case round =>
            subst hrel
            go_wp2_with fail
            go_ret2
            exact ⟨by rw [HN.o]; rfl, Below.refl _ _⟩
      · have HN : Hq (R = if 0 < keyTo v 0 1 then (keyTo v 0 1, 4) else (0, 5)) := hq (by rw [HV.o, hkm, if_neg h91, HK1.o])
        have e91 : ((byt v 0 : Int) != 91) = true := bne_iff_ne.2 (by omega)
        have e123 : ((byt v 0 : Int) != 123) = true := bne_iff_ne.2 (by omega)
        have HCL := hq (fun W q (h : q ≤ v.size) => rcolon_any v q W hv h)
        clear HV hkm HK1 h91
        have hkey : (((byt v 0 : Int) == 45) = false) ∨ (((byt v 0 : Int) == 45) = true ∧ 1 < v.size ∧ byt v 1 ≠ 32) := key
        clear key
        generalize byt v 0 = c0 at *
        rcases hkey with e45 | ⟨e45, hl1, h32⟩
        · go_enter Tryd.func43, Tryd.ntmps43
          go_wp2_with fail
          refine (HC.o _).mono ?_
          rintro e w1 ⟨rfl, rfl⟩
          clear HC
          go_wp2_with fail
          go_loop [6] (fun t => ∃ q : Nat, 1 ≤ q ∧ q ≤ C ∧ t = .int .i64 (q : Int) ∧ Hq (R = if 0 < keyTo v 0 q then (keyTo v 0 q, 4) else (0, 5)) ∧ Hq (C = cmtTo v q)) (fun t => v.size - (intOf t).toNat)
          case atStart => exact ⟨1, by omega, hce, rfl, HN, HCM⟩
          case round =>
            obtain ⟨q, hq0, hq1, rfl, hR, hC⟩ := hrel
            clear HN HCM
            by_cases hqc : q < C
            · have hqs : q ≤ v.size := by omega
              obtain ⟨hlt, hcf⟩ := keyTo_walk (by rw [← hC.o]; exact hqc) hqs
              have HQ := hq (fun W => HCL.o W q hqs)
              have HC2 : Hq (C = cmtTo v (q + 1)) := hq (hC.o.trans (cmtTo_next hcf))
              cases hsg : sgn v q 58 with
              | true =>
                rw [hsg] at HQ
                have HN2 : Hq (R = (q, 4)) := hq (by rw [hR.o, keyTo_hit hlt hcf (by omega) hsg, if_pos (by omega)])
                clear hR hC hcf hsg HC2
                go_wp2_with fail
                refine (HQ.o _).mono ?_
                rintro e w1 ⟨rfl, rfl⟩
                clear HQ
                go_wp2_with fail
                go_ret2
                exact ⟨by rw [HN2.o]; rfl, Below.refl _ _⟩
              | false =>
                rw [hsg] at HQ
                have HN2 : Hq (R = if 0 < keyTo v 0 (q + 1) then (keyTo v 0 (q + 1), 4) else (0, 5)) := hq (by rw [hR.o, keyTo_next hlt hcf (fun _ => hsg)])
                clear hR hC hcf hsg
                go_wp2_with fail
                refine (HQ.o _).mono ?_
                rintro e w1 ⟨rfl, rfl⟩
                clear HQ
                go_wp2_with fail
                go_round
                case rel => exact ⟨q + 1, by omega, hqc, int_eq (by omega), HN2, HC2⟩
                case measure => simp [intOf]; omega
            · have h' : ¬ (q : Int) < (C : Int) := by omega
              have HN2 : Hq (R = (0, 5)) := hq (by rw [hR.o, keyTo_out (by rw [← hC.o]; exact hqc) (by omega), if_neg (Nat.lt_irrefl 0)])
              clear hR hC hqc
              go_wp2_with fail
              go_ret2
              exact ⟨by rw [HN2.o]; rfl, Below.refl _ _⟩
        · have y1 : ((v[1]'hl1).toNat : Int) = (byt v 1 : Int) := by rw [byt_eq v 1 hl1]
          have e32 : ((byt v 1 : Int) == 32) = false := beq_int_false h32
          have e1l : ((v.size : Int) == 1) = false := beq_eq_false_iff_ne.2 (by omega)
          clear h32
          generalize byt v 1 = c1 at *
          go_enter Tryd.func43, Tryd.ntmps43
          go_wp2_with fail
          refine (HC.o _).mono ?_
          rintro e w1 ⟨rfl, rfl⟩
          clear HC
          go_wp2_with fail
          go_loop [6] (fun t => ∃ q : Nat, 1 ≤ q ∧ q ≤ C ∧ t = .int .i64 (q : Int) ∧ Hq (R = if 0 < keyTo v 0 q then (keyTo v 0 q, 4) else (0, 5)) ∧ Hq (C = cmtTo v q)) (fun t => v.size - (intOf t).toNat)
          case atStart => exact ⟨1, by omega, hce, rfl, HN, HCM⟩
          case round =>
            obtain ⟨q, hq0, hq1, rfl, hR, hC⟩ := hrel
            clear HN HCM
            by_cases hqc : q < C
            · have hqs : q ≤ v.size := by omega
              obtain ⟨hlt, hcf⟩ := keyTo_walk (by rw [← hC.o]; exact hqc) hqs
              have HQ := hq (fun W => HCL.o W q hqs)
              have HC2 : Hq (C = cmtTo v (q + 1)) := hq (hC.o.trans (cmtTo_next hcf))
              cases hsg : sgn v q 58 with
              | true =>
                rw [hsg] at HQ
                have HN2 : Hq (R = (q, 4)) := hq (by rw [hR.o, keyTo_hit hlt hcf (by omega) hsg, if_pos (by omega)])
                clear hR hC hcf hsg HC2
                go_wp2_with fail
                refine (HQ.o _).mono ?_
                rintro e w1 ⟨rfl, rfl⟩
                clear HQ
                go_wp2_with fail
                go_ret2
                exact ⟨by rw [HN2.o]; rfl, Below.refl _ _⟩
              | false =>
                rw [hsg] at HQ
                have HN2 : Hq (R = if 0 < keyTo v 0 (q + 1) then (keyTo v 0 (q + 1), 4) else (0, 5)) := hq (by rw [hR.o, keyTo_next hlt hcf (fun _ => hsg)])
                clear hR hC hcf hsg
                go_wp2_with fail
                refine (HQ.o _).mono ?_
                rintro e w1 ⟨rfl, rfl⟩
                clear HQ
                go_wp2_with fail
                go_round
                case rel => exact ⟨q + 1, by omega, hqc, int_eq (by omega), HN2, HC2⟩
                case measure => simp [intOf]; omega
            · have h' : ¬ (q : Int) < (C : Int) := by omega
              have HN2 : Hq (R = (0, 5)) := hq (by rw [hR.o, keyTo_out (by rw [← hC.o]; exact hqc) (by omega), if_neg (Nat.lt_irrefl 0)])
              clear hR hC hqc
              go_wp2_with fail
              go_ret2
              exact ⟨by rw [HN2.o]; rfl, Below.refl _ _⟩
end Go.Proofs.YtekihjffefokjaaDoor
