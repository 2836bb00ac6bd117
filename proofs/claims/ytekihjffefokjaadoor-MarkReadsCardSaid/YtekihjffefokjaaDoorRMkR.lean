/-
  PLAIN MATHEMATICS: the document's find; which parts a text is by the document's Decode.
  WALKS: the document's Right, hunks, find, signs of layer 25.
-/
import Derived.Test.YtekihjffefokjaaDoorMkD
import Derived.Test.YtekihjffefokjaaDoorMkB
import Derived.Test.YtekihjffefokjaaDoorMkL
import Derived.Test.YtekihjffefokjaaDoorNumK
import Derived.Test.YtekihjffefokjaaDoorMkT
import Derived.Test.YtekihjffefokjaaDoorRowU8
import Derived.Test.YtekihjffefokjaaDoorRowMem
namespace Go.Proofs.YtekihjffefokjaaDoor

def findR (t s : Bs) (k : Nat) : Int := match cutL t (s.drop k) with
  | none => -1
  | some (a, _) => ((k + a.length : Nat) : Int)
theorem findR_short {t s : Bs} {k : Nat} (ht : t ≠ []) (h : s.length < k + t.length) : findR t s k = -1 := by
  unfold findR
  cases hc : cutL t (s.drop k) with
  | none => rfl
  | some x =>
    obtain ⟨a, b⟩ := x
    have := cutL_len hc
    rw [List.length_drop] at this
    have h1 : t.length ≠ 0 := fun e => ht (List.length_eq_zero_iff.1 e)
    omega
theorem findR_here {t s : Bs} {k : Nat} (hk : k < s.length) (h : (s.drop k).take t.length = t) : findR t s k = k := by
  unfold findR
  rw [List.drop_eq_getElem_cons hk] at h ⊢
  rw [cutL, if_pos (List.isPrefixOf_iff_prefix.2 (List.prefix_iff_eq_take.2 h.symm))]
  rfl
theorem findR_next {t s : Bs} {k : Nat} (hk : k < s.length) (h : (s.drop k).take t.length ≠ t) : findR t s k = findR t s (k + 1) := by
  unfold findR
  rw [List.drop_eq_getElem_cons hk] at h ⊢
  rw [cutL, if_neg (fun e => h (List.prefix_iff_eq_take.1 (List.isPrefixOf_iff_prefix.1 e)).symm)]
  cases cutL t (s.drop (k + 1)) with
  | none => rfl
  | some x =>
    show ((k + (x.1.length + 1) : Nat) : Int) = ((k + 1 + x.1.length : Nat) : Int)
    congr 1
    omega
/-- what the document reads behind the head -/
def numR (l : Bs) : Option Int := if (parseM l).2 = 0 ∧ (intM (parseM l).1).2 = true then some (intM (parseM l).1).1 else none
theorem numR_dec (n : Nat) (hn : n ≤ 4294967290) : numR (Lib.decDigits n) = some (n : Int) := by
  have h1 := parseM_itoa (n : Int) (by
    rw [Int.natAbs_natCast]
    have := dec_len 10 n (by omega) (by omega)
    omega)
  rw [show Lib.itoa (n : Int) = Lib.decDigits n by unfold Lib.itoa; rw [if_neg (by omega)]; rfl] at h1
  have h2 := intM_ofM (n : Int) (by omega) (by omega)
  unfold numR
  rw [h1]
  simp only
  rw [h2]
  exact if_pos ⟨trivial, rfl⟩
section
variable {s h body : Bs}
theorem decM_head {l : List MPart} (hd : decM s = some l) : cutL [10] s = some (headL ++ Lib.decDigits (widthM l), encGo (widthM l) l) := by
  obtain ⟨hg, rfl⟩ := decM_is hd
  exact enc_cut hg.2
theorem decM_none1 (hc : cutL [10] s = none) : decM s = none := by
  cases hd : decM s with
  | none => rfl
  | some l => rw [decM_head hd] at hc; cases hc
theorem decM_none2 (hc : cutL [10] s = some (h, body)) (hh : h.length < 8 ∨ h.take 7 ≠ headL) : decM s = none := by
  cases hd : decM s with
  | none => rfl
  | some l =>
    have h1 := decM_head hd
    rw [hc] at h1
    have h2 := Option.some.inj h1
    injection h2 with h3 h4
    have hl7 : headL.length = 7 := rfl
    rcases hh with hh | hh
    · have : (Lib.decDigits (widthM l)).length ≠ 0 := fun e => dec_ne _ (List.length_eq_zero_iff.1 e)
      rw [h3, List.length_append] at hh
      omega
    · exact absurd (by rw [h3]; exact List.take_left' hl7) hh
theorem decM_width (hc : cutL [10] s = some (h, body)) {l : List MPart} (hd : decM s = some l) (hs : s.length ≤ 4294967290) : numR (h.drop 7) = some (widthM l : Int) ∧ body = encGo (widthM l) l ∧ 7 ≤ widthM l ∧ widthM l ≤ s.length := by
  have h1 := decM_head hd
  have hl := cutL_len h1
  have hw := enc_wide (widthM l) l (decM_is hd).1.2
  rw [hc] at h1
  have h2 := Option.some.inj h1
  injection h2 with h3 h4
  refine ⟨?_, h4, widthM_7 l, by omega⟩
  rw [h3, List.drop_left' (show headL.length = 7 from rfl)]
  exact numR_dec _ (by omega)
theorem decM_none3 (hc : cutL [10] s = some (h, body)) (hs : s.length ≤ 4294967290) (hn : ∀ n : Int, numR (h.drop 7) = some n → n < 7 ∨ (s.length : Int) < n) : decM s = none := by
  cases hd : decM s with
  | none => rfl
  | some l =>
    obtain ⟨h1, _, h3, h4⟩ := decM_width hc hd hs
    have := hn _ h1
    omega
def decAt (s : Bs) : Option (List MPart) → Option (List MPart)
  | none => none
  | some L => if rightB L = true ∧ encM L = s ∧ anyH L = true then some L else none
theorem decAt_some (s : Bs) (L : List MPart) : decAt s (some L) = if rightB L = true ∧ encM L = s ∧ anyH L = true then some L else none := rfl
theorem decM_at (hc : cutL [10] s = some (h, body)) (hs : s.length ≤ 4294967290) {n : Nat} (hn : numR (h.drop 7) = some (n : Int)) : decM s = decAt s (partsM n (body.length + 1) body) := by
  cases hd : decM s with
  | some l =>
    obtain ⟨h1, h2, _, _⟩ := decM_width hc hd hs
    obtain ⟨hg, he⟩ := decM_is hd
    rw [hn] at h1
    have h3 : n = widthM l := by have := Option.some.inj h1; omega
    rw [h2, h3, parts_of hg.1]
    rw [decAt_some, if_pos ⟨(rightB_iff l).2 hg.1, he, hg.2⟩]
  | none =>
    cases partsM n (body.length + 1) body with
    | none => rfl
    | some L =>
      rw [decAt_some]
      split
      · rename_i hg
        rw [decM_some ⟨(rightB_iff L).1 hg.1, hg.2.2⟩ hg.2.1] at hd
        cases hd
      · rfl
end
end Go.Proofs.YtekihjffefokjaaDoor

namespace Go.Proofs.YtekihjffefokjaaDoor
open Go.RowKit

set_option maxHeartbeats 1000000 in
set_option maxRecDepth 1000000 in
theorem rhunks_any (o : Option Addr) (cap : Nat) (l : List MPart) (w : World) (_hl : l.length ≤ cap) (_hc : cap ≤ maxLen) (hin : PartsIn w o l) :
    Calls Tryd.prog 57 #[.slice o l.length cap] w fun e w' => e = .returned (.int .i64 (nH l : Int)) ∧ Below w.heap.size w w' := by
  unfold maxLen at _hc
  have HIN := hq hin
  clear hin
  go_enter Tryd.func57, Tryd.ntmps57
  go_wp2_with fail
  go_loopw [3, 4] (fun c i wr => ∃ k m : Nat, k ≤ l.length ∧ i = .int .i64 (k : Int) ∧ c = .int .i64 (m : Int) ∧ Hq (nH l = m + nH (l.drop k)) ∧ m ≤ k ∧ Below w.heap.size w wr) (fun _ i _ => l.length - (intOf i).toNat)
  case atStart => exact ⟨0, 0, Nat.zero_le _, rfl, rfl, hq (by simp), Nat.le_refl _, Below.refl _ _⟩
  case round =>
    obtain ⟨k, m, hk, rfl, rfl, hnh, hnk, hb⟩ := hrel
    by_cases h : k < l.length
    · obtain ⟨b, f, rfl, hp⟩ := HIN.o k h
      obtain ⟨c0, c1, c2, c3, c4⟩ := hp.grow hb
      have HN : Hq (nH l = (m + (if l[k].hunk = true then 1 else 0)) + nH (l.drop (k + 1))) := hq (by rw [hnh.o, nH_step h, Nat.add_assoc])
      clear hp HIN hnh
      generalize l[k] = x at *
      cases hx : x.hunk with
      | true =>
        rw [hx] at c0 HN
        simp only [if_true] at HN
        go_wp2_with fail
        go_roundw
        case rel => exact ⟨k + 1, m + 1, h, int_eq (by omega), int_eq (by omega), HN, by omega, hb⟩
        case measure => simp [intOf]; omega
      | false =>
        rw [hx] at c0 HN
        simp only [Bool.false_eq_true, if_false, Nat.add_zero] at HN
        go_wp2_with fail
        go_roundw
        case rel => exact ⟨k + 1, m, h, int_eq (by omega), rfl, HN, by omega, hb⟩
        case measure => simp [intOf]; omega
    · have h' : ¬ (k : Int) < (l.length : Int) := by omega
      have HNH : Hq (nH l = m) := hq (by rw [hnh.o, nH_end h]; rfl)
      clear hnh h
      go_wp2_with fail
      go_ret
      exact ⟨by rw [HNH.o]; rfl, hb⟩

theorem ex_st (s : Bs) (i n : Nat) : (st s).extract i (i + n) = st ((s.drop i).take n) := by
  rw [extract_st, st_list, show i + n - i = n by omega]
theorem st_one {a b : Bs} (h : st a = st b) : a = b := by
  have := congrArg (fun x : ByteArray => x.data.toList) h
  simpa [st_list] using this
set_option maxHeartbeats 1000000 in
set_option maxRecDepth 1000000 in
theorem rfind_any (s t : Bs) (k : Nat) (w : World) (ht : t ≠ []) (hs : s.length ≤ 1099511627776) (htl : t.length ≤ 1099511627776) (hk : k ≤ s.length + 1) :
    Calls Tryd.prog 66 #[.string (st s), .string (st t), .int .i64 (k : Int)] w fun e w' => e = .returned (.int .i64 (findR t s k)) ∧ w' = w := by
  have htp : 0 < t.length := List.length_pos_iff.2 ht
  have HTN := hq ht
  have HR : Hq (findR t s k = findR t s k) := hq rfl
  generalize hRR : findR t s k = R at *
  have HRR : Hq (R = findR t s k) := hq hRR.symm
  clear HR hRR ht
  go_enter Tryd.func66, Tryd.ntmps66
  go_wp2_with fail
  go_loop [7] (fun i => ∃ p : Nat, p ≤ s.length + 1 ∧ i = .int .i64 (p : Int) ∧ Hq (R = findR t s p)) (fun i => s.length + 1 - (intOf i).toNat)
  case atStart => exact ⟨k, hk, rfl, HRR⟩
  case round =>
    obtain ⟨p, hp, rfl, hr⟩ := hrel
    clear HRR
    by_cases h : p + t.length ≤ s.length
    · have h1 : (p : Int) + (t.length : Int) ≤ (s.length : Int) := by omega
      have hcut := ex_st s p t.length
      by_cases he : (s.drop p).take t.length = t
      · have HN : Hq (R = (p : Int)) := hq (by rw [hr.o, findR_here (by omega) he])
        rw [he] at hcut
        clear hr he
        go_wp2_with fail
        go_ret
        exact ⟨by rw [HN.o]; rfl, rfl⟩
      · have HN : Hq (R = findR t s (p + 1)) := hq (by rw [hr.o, findR_next (by omega) he])
        generalize (s.drop p).take t.length = u at *
        have hneb : (u == t) = false := beq_eq_false_iff_ne.2 he
        clear hr
        go_wp2_with fail
        go_round
        case rel => exact ⟨p + 1, by omega, int_eq (by omega), HN⟩
        case measure => simp [intOf]; omega
    · have h1 : ¬ (p : Int) + (t.length : Int) ≤ (s.length : Int) := by omega
      have HN : Hq (R = -1) := hq (by rw [hr.o, findR_short HTN.o (by omega)])
      clear hr h
      go_wp2_with fail
      go_ret
      exact ⟨by rw [HN.o]; rfl, rfl⟩

set_option maxHeartbeats 2000000 in
set_option maxRecDepth 1000000 in
theorem rmright_any (o : Option Addr) (cap : Nat) (l : List MPart) (w : World) (_hl : l.length ≤ cap) (_hc : cap ≤ maxLen) (hin : PartsIn w o l) :
    Calls Tryd.prog 29 #[.slice o l.length cap] w fun e w' => e = .returned (.bool (rightB l)) ∧ Below w.heap.size w w' := by
  unfold maxLen at _hc
  have HIN := hq hin
  clear hin
  by_cases hbig : 4096 < l.length
  · have HN : Hq (rightB l = false) := hq (by unfold rightB; rw [decide_eq_false (by omega)]; rfl)
    have b1 : (4096 : Int) < (l.length : Int) := by omega
    generalize rightB l = V at *
    go_enter Tryd.func29, Tryd.ntmps29
    go_wp2_with fail
    go_ret
    exact ⟨by rw [HN.o]; rfl, Below.refl _ _⟩
  · have HV : Hq (rightB l = okB (flagB l 0) (l.drop 0)) := hq (by unfold rightB; rw [decide_eq_true (by omega)]; rfl)
    have b1 : ¬ (4096 : Int) < (l.length : Int) := by omega
    generalize rightB l = V at *
    go_enter Tryd.func29, Tryd.ntmps29
    go_wp2_with fail
    go_loopw [3] (fun i wr => ∃ k : Nat, k ≤ l.length ∧ i = .int .i64 (k : Int) ∧ Hq (V = okB (flagB l k) (l.drop k)) ∧ Below w.heap.size w wr) (fun i _ => l.length - (intOf i).toNat)
    case atStart => exact ⟨0, Nat.zero_le _, rfl, HV, Below.refl _ _⟩
    case round =>
      obtain ⟨k, hk, rfl, hv, hb⟩ := hrel
      clear HV
      by_cases h : k < l.length
      · have hpr : k ≠ 0 → ∃ b f, o = some ⟨b, f, none⟩ ∧ wr.cell? ⟨b, f + (k - 1) * 5, none⟩ = some (.bool (flagB l k)) := fun h0 => by
          obtain ⟨b, f, h1, h2⟩ := HIN.o (k - 1) (by omega)
          refine ⟨b, f, h1, ?_⟩
          rw [(h2.grow hb).c0]
          obtain ⟨j, rfl⟩ : ∃ j, k = j + 1 := ⟨k - 1, by omega⟩
          rw [flagB_succ (by omega)]
          rfl
        obtain ⟨b, f, rfl, hp⟩ := HIN.o k h
        obtain ⟨c0, c1, c2, c3, c4⟩ := hp.grow hb
        have hsz := hb.size
        have hbl : b < wr.heap.size := (hp.grow hb).lt
        have HPR : Hq (k ≠ 0 → wr.cell? ⟨b, f + (k - 1) * 5, none⟩ = some (.bool (flagB l k))) := hq (fun h0 => by
          obtain ⟨b', f', h1, h2⟩ := hpr h0
          injection h1 with h1
          injection h1 with h1 h3
          rw [h1, h3]; exact h2)
        have HS : Hq (V = if l[k].hunk = true then l[k].text.isEmpty && okB (flagB l (k + 1)) (l.drop (k + 1)) else textB (flagB l k) l[k] && okB (flagB l (k + 1)) (l.drop (k + 1))) := hq (hv.o.trans (okB_step h))
        have HF0 : Hq (k = 0 → flagB l k = true) := hq (fun h => by rw [h]; rfl)
        clear hv hp HIN hpr
        generalize l[k] = x at *
        generalize flagB l k = F at *
        obtain ⟨xh, T, S0, S1, S2⟩ := x
        simp only at c0 c1 c2 c3 c4 HS
        cases xh with
        | true =>
          cases hT : T.isEmpty with
          | true =>
            have HN : Hq (V = okB (flagB l (k + 1)) (l.drop (k + 1))) := hq (by rw [HS.o, if_pos rfl, hT]; rfl)
            clear HS HPR HF0
            go_wp2_with fail
            go_roundw
            case rel => exact ⟨k + 1, h, int_eq (by omega), HN, hb.alloc hsz _⟩
            case measure => simp [intOf]; omega
          | false =>
            have HN : Hq (V = false) := hq (by rw [HS.o, if_pos rfl, hT]; rfl)
            clear HS HPR HF0
            go_wp2_with fail
            go_ret
            exact ⟨by rw [HN.o]; rfl, hb.alloc hsz _⟩
        | false =>
          cases hT : T.isEmpty with
          | true =>
            have HN : Hq (V = false) := hq (by rw [HS.o, if_neg Bool.false_ne_true]; unfold textB; simp only; rw [hT]; simp)
            clear HS HPR HF0
            go_wp2_with fail
            go_ret
            exact ⟨by rw [HN.o]; rfl, hb.alloc hsz _⟩
          | false =>
            cases hS : (S0.isEmpty && (S1.isEmpty && S2.isEmpty)) with
            | false =>
              have E := eq_sides S0 S1 S2 false hS
              have HN : Hq (V = false) := hq (by rw [HS.o, if_neg Bool.false_ne_true]; unfold textB; simp only; rw [Bool.and_assoc S0.isEmpty, hS]; simp)
              clear HS HPR HF0 hS
              go_wp2_with fail
              go_ret
              exact ⟨by rw [HN.o]; rfl, hb.alloc hsz _⟩
            | true =>
              have E := eq_sides S0 S1 S2 true hS
              have HN : Hq (V = (F && okB (flagB l (k + 1)) (l.drop (k + 1)))) := hq (by rw [HS.o, if_neg Bool.false_ne_true]; unfold textB; simp only; rw [Bool.and_assoc S0.isEmpty, hS, hT]; simp)
              clear HS hS
              by_cases h0 : k = 0
              · have HN2 : Hq (V = okB (flagB l (k + 1)) (l.drop (k + 1))) := hq (by rw [HN.o, HF0.o h0]; rfl)
                have e0 : ¬ (0 : Int) < (k : Int) := by omega
                clear HN HPR HF0 h0
                go_wp2_with fail
                go_roundw
                case rel => exact ⟨k + 1, h, int_eq (by omega), HN2, hb.alloc hsz _⟩
                case measure => simp [intOf]; omega
              · have e0 : (0 : Int) < (k : Int) := by omega
                have hpc := HPR.o h0
                have hz : ((k : Int) - 1).toNat = k - 1 := by omega
                have hk1 : k - 1 < l.length := by omega
                cases F with
                | true =>
                  have HN2 : Hq (V = okB (flagB l (k + 1)) (l.drop (k + 1))) := hq (by rw [HN.o]; rfl)
                  clear HN HPR HF0 h0
                  go_wp2_with fail
                  go_roundw
                  case rel => exact ⟨k + 1, h, int_eq (by omega), HN2, hb.alloc hsz _⟩
                  case measure => simp [intOf]; omega
                | false =>
                  have HN2 : Hq (V = false) := hq (by rw [HN.o]; rfl)
                  clear HN HPR HF0 h0
                  go_wp2_with fail
                  go_ret
                  exact ⟨by rw [HN2.o]; rfl, hb.alloc hsz _⟩
      · have h' : ¬ (k : Int) < (l.length : Int) := by omega
        have HN : Hq (V = true) := hq (hv.o.trans (okB_end h _))
        clear hv h
        go_wp2_with fail
        go_ret
        exact ⟨by rw [HN.o]; rfl, hb⟩
theorem byte_nat (c : UInt8) : UInt8.ofNat c.toNat = c := by simp
theorem byteCells_rep (c : UInt8) : Lib.byteCells [c] = [.int .u8 (c.toNat : Int)] := rfl
set_option maxHeartbeats 1000000 in
set_option maxRecDepth 1000000 in
theorem rsigns_any (c : UInt8) (n : Nat) (w : World) (h0 : 1 ≤ n) (hn : n ≤ 1073741824) :
    Calls Tryd.prog 59 #[.int .u8 (c.toNat : Int), .int .i64 (n : Int)] w fun e w' => e = .returned (.string (st (List.replicate n c ++ [10]))) ∧ Below w.heap.size w w' := by
  obtain ⟨i0, hi, hz0, hz1, hz2⟩ := info_parts infoU8
  go_enter Tryd.func59, Tryd.ntmps59
  go_wp2_with fail
  go_loopw [5, 6] (fun v i wr => ∃ k : Nat, k ≤ n ∧ i = .int .i64 (k : Int) ∧ Hq (RowIs wr w.heap.size v (List.replicate k c)) ∧ Below w.heap.size w wr) (fun _ i _ => n - (intOf i).toNat)
  case atStart => exact ⟨0, Nat.zero_le _, rfl, hq (World.ownsRow_nil _ _ _ _), Below.refl _ _⟩
  case round =>
    obtain ⟨k, hk, rfl, hrow, hb⟩ := hrel
    have hsz := hb.size
    have hrl : (List.replicate k c).length = k := List.length_replicate
    obtain ⟨vb, vn, vc, rfl⟩ := row_form hrow.o
    by_cases h : k < n
    · have h1 : (k : Int) < (n : Int) := by omega
      have HOT := hq (row_other hrow.o)
      have HRS : Hq (List.replicate (k + 1) c = List.replicate k c ++ [c]) := hq List.replicate_succ'
      have HR1 : Hq ((List.replicate k c).length + 1 ≤ maxLen) := hq (by rw [hrl]; unfold maxLen; omega)
      have HR2 : Hq (((List.replicate k c).length + 1) * 1 ≤ 140737488355328) := hq (by rw [hrl]; omega)
      clear hrl
      go_wp2_with (at_builtin; refine wpList_append_own _ rfl _ _ 38 rfl w.heap.size 5 i0 (.int .u8 0) 1 1 Tryd.underlying38 hi hz0 hz1 hz2 rfl (by decide) _ _ _ rfl (hrow.o.alloc _) ⟨wr.heap.size, 0, none⟩ 1 1 [.int .u8 (c.toNat : Int)] rfl rfl (cells_new _ [.int .u8 (c.toNat : Int)] _) (u8_one ⟨[(c.toNat : Int)], rfl⟩) HR1.o HR2.o (by rw [World.size_alloc]; omega) ?_)
      intro v' w2 hown' hgrow _
      have hrow2 : RowIs w2 w.heap.size v' (List.replicate (k + 1) c) := rel_app (by rw [List.length_replicate]; exact hown') HRS.o rfl (byteCells_rep c)
      have hb2 : Below w.heap.size w w2 := (hb.alloc hsz _).grown hgrow (by rw [World.size_alloc]; omega) HOT.o
      have HROW := hq hrow2
      clear hown' hgrow hrow2
      go_wp2_with fail
      go_roundw
      case rel => exact ⟨k + 1, by omega, int_eq (by omega), HROW, hb2⟩
      case measure => simp [intOf]; omega
    · obtain rfl : k = n := by omega
      have h1 : ¬ (k : Int) < (k : Int) := by omega
      have hcv := bytes_back hrow.o (by rw [hrl]; omega)
      clear hrow
      go_wp2_with fail
      go_ret
      exact ⟨by first | rfl | (rw [← append_st]; rfl), hb⟩

end Go.Proofs.YtekihjffefokjaaDoor
