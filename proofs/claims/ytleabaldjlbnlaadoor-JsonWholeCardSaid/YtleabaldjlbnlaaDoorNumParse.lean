/-
  WALKS: number.Parse.
-/
import Derived.Test.YtleabaldjlbnlaaDoorNumSplit
import Derived.Test.YtleabaldjlbnlaaDoorNumRight
namespace Go.Proofs.YtleabaldjlbnlaaDoor
open Go.RowKit

/-- what Parse answers: the number, the error -/
def parseM (l : Bs) : Dec × Int :=
  match splitM l with
  | none => (.zero, 2)
  | some p =>
    if 1000 < p.whole.length + p.frac.length then (.zero, 3)
    else if 9 < (stripL p.power).length then (.zero, 4)
    else if (numM p.neg p.whole p.frac p.down (stripL p.power)).right = true then (numM p.neg p.whole p.frac p.down (stripL p.power), 0) else (.zero, 4)
/-- what is known of a literal's parts -/
theorem numM_exp (neg : Bool) (whole frac : Bs) (down : Bool) (power : Bs) (hp : power.all isDig = true) (hl : power.length ≤ 9) (hw : whole.length + frac.length ≤ 1000) :
    (numM neg whole frac down power).digits.length ≤ 1000 ∧ -9223372036854775808 ≤ (numM neg whole frac down power).exp ∧ (numM neg whole frac down power).exp ≤ 9223372036854775807 := by
  have hb := numOf_le power hp hl
  have h1 := stripL_le (whole ++ frac)
  have h2 := stripR_le (stripL (whole ++ frac))
  rw [List.length_append] at h1
  unfold numM
  simp only
  split
  · simp [Dec.zero]
  · refine ⟨by simp only; omega, ?_, ?_⟩ <;> simp only <;> split <;> omega
theorem takeWhile_all (l : Bs) : (l.takeWhile isDig).all isDig = true := by
  induction l with
  | nil => rfl
  | cons c l ih =>
    rw [List.takeWhile_cons]
    split
    · rename_i h; rw [List.all_cons, h, ih]; rfl
    · rfl
theorem splitFin_power {p q : Parts} {d : Bool} {r : Bs} (h : splitFin p d r = some q) : q.power.all isDig = true ∧ q.whole = p.whole ∧ q.frac = p.frac := by
  unfold splitFin at h
  split at h
  · rename_i hh; injection h with h; subst h; exact ⟨hh.2, rfl, rfl⟩
  · cases h
theorem splitExp_power {p q : Parts} {l : Bs} (h : splitExp p l = some q) : q.power.all isDig = true ∧ q.whole = p.whole ∧ q.frac = p.frac := by
  unfold splitExp at h
  split at h <;> exact splitFin_power h
theorem splitTail_power {p q : Parts} {l : Bs} (hp : p.power.all isDig = true) (h : splitTail p l = some q) : q.power.all isDig = true ∧ q.whole = p.whole ∧ q.frac = p.frac := by
  cases l with
  | nil => unfold splitTail at h; injection h with h; subst h; exact ⟨hp, rfl, rfl⟩
  | cons c l =>
    have h : (if c = 101 ∨ c = 69 then splitExp p l else none) = some q := h
    split at h
    · exact splitExp_power h
    · cases h
theorem splitM_parts {l : Bs} {q : Parts} (h : splitM l = some q) : q.power.all isDig = true ∧ q.whole.all isDig = true ∧ q.frac.all isDig = true ∧ q.whole.length + q.frac.length ≤ l.length := by
  have key : ∀ (neg : Bool) (m : Bs), m.length ≤ l.length → splitWhole neg m = some q → q.power.all isDig = true ∧ q.whole.all isDig = true ∧ q.frac.all isDig = true ∧ q.whole.length + q.frac.length ≤ l.length := by
    intro neg m hm hs
    have hlen : (m.takeWhile isDig).length + (m.dropWhile isDig).length = m.length := by
      have := congrArg List.length (List.takeWhile_append_dropWhile (p := isDig) (l := m))
      rwa [List.length_append] at this
    unfold splitWhole at hs
    simp only at hs
    split at hs
    · cases hs
    · unfold splitFrac at hs
      split at hs
      · rename_i r hr
        have hlr : (m.dropWhile isDig).length = r.length + 1 := by rw [hr]; simp
        have hlen2 : (r.takeWhile isDig).length ≤ r.length := (List.takeWhile_prefix _).length_le
        split at hs
        · cases hs
        · obtain ⟨a, b, c⟩ := splitTail_power (by rfl) hs
          rw [b, c]
          exact ⟨a, takeWhile_all m, takeWhile_all r, by simp only; omega⟩
      · obtain ⟨a, b, c⟩ := splitTail_power (by rfl) hs
        rw [b, c]
        exact ⟨a, takeWhile_all m, rfl, by simp only [List.length_nil]; omega⟩
  unfold splitM at h
  split at h
  · exact key _ _ (by rw [List.length_tail]; omega) h
  · exact key _ _ (Nat.le_refl _) h
theorem stripL_all {l : Bs} (h : l.all isDig = true) : (stripL l).all isDig = true := by
  unfold stripL Lib.trimLeftB
  rw [List.all_eq_true] at *
  intro x hx
  exact h x ((List.dropWhile_suffix _).subset hx)

theorem set_three {w1 : World} {g : Nat} {t : TypeId} {x y z : Value} (hW : Whole w1 g t #[x, y, z]) (a b c : Value) (o : Obj) :
    Whole ((((w1.setCell ⟨g, 0, none⟩ a).setCell ⟨g, 1, none⟩ b).setCell ⟨g, 2, none⟩ c).alloc o) g t #[a, b, c] := by
  simpa using (((hW.put 0 a).put 1 b).put 2 c).alloc o

def ParsePost (R : Dec × Int) (w : World) (e : Ending) (w' : World) : Prop := e = .returned (.tuple #[R.1.val, .int .i64 R.2]) ∧ Below w.heap.size w w'

set_option maxHeartbeats 2000000 in
set_option maxRecDepth 1000000 in
theorem parse_any (s : ByteArray) (w : World) (hs : s.size ≤ 1099511627776) :
    Calls Tryd.prog 52 #[.string s] w (ParsePost (parseM s.data.toList) w) := by
  have HS : Hq (s.size ≤ maxLen) := hq (by unfold maxLen; omega)
  generalize hR : parseM s.data.toList = R
  have HR := hq hR
  clear hR
  go_enter Tryd.func52, Tryd.ntmps52
  go_wp2_with fail
  refine (split_any s _ HS.o).mono ?_
  generalize hP : splitM s.data.toList = P
  rintro e w1 ⟨⟨v, rfl, hv⟩, hb1⟩
  have hW := (Whole.made w 81 #[.bool false, .string (st []), .int .i64 0]).grow hb1
  have hb : Below w.heap.size w w1 := (below_alloc w (.cells #[.bool false, .string (st []), .int .i64 0] 81)).trans (hb1.mono (by rw [World.size_alloc]; omega))
  clear hb1
  obtain ⟨r0, r1, r2⟩ := three_cells hW
  have q0 := hW.free 0
  have q1 := hW.free 1
  have q2 := hW.free 2
  have hlt := hW.lt
  rcases hv with ⟨⟨neg, whole, frac, down, power⟩, rfl, rfl⟩ | ⟨rfl, ⟨neg, whole, frac, down, power⟩, rfl⟩
  · simp only [Parts.val]
    have HQ := hq (splitM_parts hP)
    simp only at HQ
    have hlen : whole.length + frac.length ≤ 1099511627776 := by have := HQ.o.2.2.2; rw [Array.length_toList] at this; exact Nat.le_trans this hs
    by_cases hk : 1000 < whole.length + frac.length
    · have HN : Hq (R = (.zero, 3)) := hq (by rw [← HR.o]; unfold parseM; rw [hP]; simp only [if_pos hk])
      clear HR hP HQ
      go_wp2_with fail
      refine bodyPost_ret (v := .tuple #[Dec.zero.val, .int .i64 3]) ?_ rfl ?_
      · obtain ⟨z0, z1, z2⟩ := three_cells (set_three hW (.bool false) (.string ⟨#[]⟩) (.int .i64 0) (.cells #[.bool neg, .string (st whole), .string (st frac), .bool down, .string (st power)] 108))
        simp [results, Tryd.results52, go_sem, z0, z1, z2, Dec.zero, Dec.val]
      · exact ⟨by rw [HN.o], (((hb.setCell (p := ⟨w.heap.size, 0, none⟩) (by simp) _).setCell (p := ⟨w.heap.size, 1, none⟩) (by simp) _).setCell (p := ⟨w.heap.size, 2, none⟩) (by simp) _).alloc (by simp; omega) _⟩
    · have HP2 : Hq (R = if 9 < (stripL power).length then (.zero, 4) else if (numM neg whole frac down (stripL power)).right = true then (numM neg whole frac down (stripL power), 0) else (.zero, 4)) := hq (by
        rw [← HR.o]; unfold parseM; rw [hP]; simp only [if_neg hk])
      clear HR hP
      have HA := hq (stripL_all HQ.o.1)
      clear HQ
      go_wp2_with fail
      refine (Tryd.strings_TrimLeft_one (st power) 48 (by decide) _).mono ?_
      rw [st_list, show Lib.trimLeftB power 48 = stripL power from rfl]
      generalize stripL power = PW at *
      rintro e w2 ⟨rfl, hw2⟩
      obtain rfl := hw2.symm
      by_cases h9 : 9 < PW.length
      · have HN : Hq (R = (.zero, 4)) := hq (by rw [HP2.o, if_pos h9])
        clear HP2
        go_wp2_with fail
        refine bodyPost_ret (v := .tuple #[Dec.zero.val, .int .i64 4]) ?_ rfl ?_
        · obtain ⟨z0, z1, z2⟩ := three_cells (set_three hW (.bool false) (.string ⟨#[]⟩) (.int .i64 0) (.cells #[.bool neg, .string (st whole), .string (st frac), .bool down, .string (st power)] 108))
          simp [results, Tryd.results52, go_sem, z0, z1, z2, Dec.zero, Dec.val]
        · exact ⟨by rw [HN.o], (((hb.setCell (p := ⟨w.heap.size, 0, none⟩) (by simp) _).setCell (p := ⟨w.heap.size, 1, none⟩) (by simp) _).setCell (p := ⟨w.heap.size, 2, none⟩) (by simp) _).alloc (by simp; omega) _⟩
      · have HP3 : Hq (R = if (numM neg whole frac down PW).right = true then (numM neg whole frac down PW, 0) else (.zero, 4)) := hq (by rw [HP2.o, if_neg h9])
        clear HP2
        have hex := numM_exp neg whole frac down PW HA.o (by omega) (by omega)
        go_wp2_with fail
        refine (number_any neg whole frac down _ PW _ HA.o (by omega) hlen).mono ?_
        generalize numM neg whole frac down PW = D at *
        rintro e w2 ⟨rfl, hb2⟩
        obtain ⟨dn, DD, DE⟩ := D
        simp only [Dec.val] at *
        have hW2 := (hW.alloc (.cells #[.bool neg, .string (st whole), .string (st frac), .bool down, .string (st power)] 108)).grow hb2
        have hb3 : Below w.heap.size w w2 := (hb.alloc (by omega) _).trans (hb2.mono (by rw [World.size_alloc]; omega))
        clear hb2
        go_wp2_with fail
        refine (right_any dn DD DE _ (by omega) hex.2).mono ?_
        generalize Dec.right ⟨dn, DD, DE⟩ = B at *
        rintro e w3 ⟨rfl, hbA⟩
        have hW3 := (hW2.alloc (.cells #[.bool dn, .string (st DD), .int .i64 DE] 81)).grow hbA
        have hN3 := (Whole.made w2 81 #[.bool dn, .string (st DD), .int .i64 DE]).grow hbA
        have hb4 : Below w.heap.size w w3 := (hb3.alloc (by have := hb3.size; omega) _).trans (hbA.mono (by rw [World.size_alloc]; have := hb3.size; omega))
        have hlt3 := hN3.lt
        have hlt2 := hb3.size
        clear hbA hb3 hW2 hex hb r0 r1 r2 q0 q1 q2 hW
        obtain ⟨r0, r1, r2⟩ := three_cells hW3
        obtain ⟨n0, n1, n2⟩ := three_cells hN3
        have q0 := hW3.free 0
        have q1 := hW3.free 1
        have q2 := hW3.free 2
        cases B with
        | true =>
          have HN : Hq (R = (⟨dn, DD, DE⟩, 0)) := hq (by rw [HP3.o, if_pos rfl])
          clear HP3
          go_wp2_with fail
          refine bodyPost_ret (v := .tuple #[(Dec.mk dn DD DE).val, .int .i64 0]) ?_ rfl ?_
          · obtain ⟨z0, z1, z2⟩ := three_cells (by simpa using (((hW3.put 0 (.bool dn)).put 1 (.string (st DD))).put 2 (.int .i64 DE)))
            simp [results, Tryd.results52, go_sem, z0, z1, z2, Dec.val]
          · exact ⟨by rw [HN.o], ((hb4.setCell (p := ⟨w.heap.size, 0, none⟩) (by simp) _).setCell (p := ⟨w.heap.size, 1, none⟩) (by simp) _).setCell (p := ⟨w.heap.size, 2, none⟩) (by simp) _⟩
        | false =>
          have HN : Hq (R = (.zero, 4)) := hq (by rw [HP3.o, if_neg (by simp)])
          clear HP3
          go_wp2_with fail
          refine bodyPost_ret (v := .tuple #[Dec.zero.val, .int .i64 4]) ?_ rfl ?_
          · simp [results, Tryd.results52, go_sem, r0, r1, r2, Dec.zero, Dec.val]
          · exact ⟨by rw [HN.o], ((hb4.setCell (p := ⟨w.heap.size, 0, none⟩) (by simp) _).setCell (p := ⟨w.heap.size, 1, none⟩) (by simp) _).setCell (p := ⟨w.heap.size, 2, none⟩) (by simp) _⟩
  · have HN : Hq (R = (.zero, 2)) := hq (by rw [← HR.o]; unfold parseM; rw [hP])
    clear HR hP
    simp only [Parts.val]
    go_wp2_with fail
    refine bodyPost_ret (v := .tuple #[Dec.zero.val, .int .i64 2]) ?_ rfl ?_
    · obtain ⟨z0, z1, z2⟩ := three_cells (set_three hW (.bool false) (.string ⟨#[]⟩) (.int .i64 0) (.cells #[.bool neg, .string (st whole), .string (st frac), .bool down, .string (st power)] 108))
      simp [results, Tryd.results52, go_sem, z0, z1, z2, Dec.zero, Dec.val]
    · exact ⟨by rw [HN.o], (((hb.setCell (p := ⟨w.heap.size, 0, none⟩) (by simp) _).setCell (p := ⟨w.heap.size, 1, none⟩) (by simp) _).setCell (p := ⟨w.heap.size, 2, none⟩) (by simp) _).alloc (by simp; omega) _⟩
end Go.Proofs.YtleabaldjlbnlaaDoor
