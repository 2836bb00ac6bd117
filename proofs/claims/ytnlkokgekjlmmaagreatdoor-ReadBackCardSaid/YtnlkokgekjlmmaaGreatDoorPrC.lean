/-
  WALKS: print.printer's list.
-/
import Derived.Test.YtnlkokgekjlmmaaGreatDoorPrB
namespace Go.Proofs.YtnlkokgekjlmmaaGreatDoor
open Go.RowKit
def commaB (ln : Bs) : List Bs → Bs
  | [] => []
  | x :: r => ln ++ x ++ r.flatMap fun y => 44 :: (ln ++ y)
def listB (ls : Bool) (n lev : Nat) (o c : UInt8) (its : List Bs) : Bs := o :: (commaB (lnB ls n (lev + 1)) its ++ (if its = [] then [] else lnB ls n lev) ++ [c])
theorem commaB_snoc (ln x : Bs) : ∀ l : List Bs, commaB ln (l ++ [x]) = commaB ln l ++ (if l = [] then [] else [44]) ++ ln ++ x
  | [] => by simp [commaB]
  | y :: l => by simp [commaB]
theorem commaB_le (ln : Bs) (r : List Bs) : ∀ l : List Bs, (commaB ln l).length ≤ (commaB ln (l ++ r)).length
  | [] => by simp [commaB]
  | y :: l => by simp [commaB]
theorem commaB_take {ln : Bs} {its : List Bs} {j : Nat} (h : j < its.length) : commaB ln (its.take (j + 1)) = commaB ln (its.take j) ++ (if j = 0 then [] else [44]) ++ ln ++ its[j] := by
  rw [List.take_succ_eq_append_getElem h, commaB_snoc]
  have : (its.take j = []) ↔ j = 0 := by
    rw [List.take_eq_nil_iff]
    constructor
    · rintro (h1 | h1)
      · exact h1
      · subst h1; simp at h
    · exact .inl
  by_cases hj : j = 0
  · rw [if_pos (this.2 hj), if_pos hj]
  · rw [if_neg (fun h => hj (this.1 h)), if_neg hj]
theorem commaB_upto (ln : Bs) (its : List Bs) (j : Nat) : (commaB ln (its.take j)).length ≤ (commaB ln its).length := by
  have h := commaB_le ln (its.drop j) (its.take j)
  rwa [List.take_append_drop] at h
set_option maxHeartbeats 8000000 in
set_option maxRecDepth 1000000 in
theorem plist {w0 : World} (b : Nat) (l : Bs) (ls : Bool) (n lev : Nat) (o c : UInt8) (its : List Bs) (F : Nat) (rc : Value) (w : World)
    (hcf : ∀ (args : Array Value) (w : World), (callFunc F args).run Tryz.prog w = .ok (.enter F args) w)
    (hit : ∀ (j : Nat) (hj : j < its.length) (l' : Bs) (W : World), Below w0.heap.size w0 W → Prn w0.heap.size b l' ls (n : Int) W → l'.length + its[j].length ≤ 140737488355328 → Calls Tryz.prog F #[rc, .int .i64 (j : Int), .int .i64 ((lev : Int) + 1)] W (PrPost w0.heap.size b (l' ++ its[j]) ls (n : Int) W))
    (hb : Below w0.heap.size w0 w) (h : Prn w0.heap.size b l ls (n : Int) w) (hn : n ≤ 1000) (hv : lev ≤ 999999) (hz : its.length ≤ 9223372036854775807) (hl : l.length + (listB ls n lev o c its).length ≤ 140737488355328) :
    Calls Tryz.prog 92 #[.pointer (some ⟨b, 0, none⟩), .string (st [o]), .string (st [c]), .int .i64 (its.length : Int), .int .i64 (lev : Int), .func (.func F) #[rc] #[]] w (PrPost w0.heap.size b (l ++ listB ls n lev o c its) ls (n : Int) w) := by
  have HB := hq (fun (l' : Bs) (ch : UInt8) W (hW : PrW w0.heap.size b l' ls (n : Int) w W) (h1 : l'.length + 1 ≤ 140737488355328) => (pbyte w0.heap.size b l' ls (n : Int) ch W hW.1 h1 (Nat.le_trans hb.size hW.2.1.size)).mono (fun (e : Ending) W' ⟨he, h2⟩ => (⟨he, hW.trans h2⟩ : e = Ending.returned .nilIface ∧ PrW w0.heap.size b (l' ++ [ch]) ls (n : Int) w W')))
  have HS := hq (fun (l' : Bs) (t : Bs) W (hW : PrW w0.heap.size b l' ls (n : Int) w W) (h1 : l'.length + t.length ≤ 140737488355328) => (pstring w0.heap.size b l' t ls (n : Int) W hW.1 h1 (Nat.le_trans hb.size hW.2.1.size)).mono (fun (e : Ending) W' ⟨he, h2⟩ => (⟨he, hW.trans h2⟩ : (∃ m, e = Ending.returned (.tuple #[.int .i64 m, .nilIface])) ∧ PrW w0.heap.size b (l' ++ t) ls (n : Int) w W')))
  have HL : Hq (∀ (l' : Bs) (lv : Nat) (W : World), PrW w0.heap.size b l' ls (n : Int) w W → lv ≤ 1000000 → l'.length + (lnB ls n lv).length ≤ 140737488355328 → Calls Tryz.prog 146 #[.pointer (some ⟨b, 0, none⟩), .int .i64 (lv : Int)] W (PrPost w0.heap.size b (l' ++ lnB ls n lv) ls (n : Int) w)) := hq (fun l' lv W hW h0 h1 => (pline w0.heap.size b l' ls n lv W hW.1 hn h0 h1 (Nat.le_trans hb.size hW.2.1.size)).mono (fun e W' hh => ⟨hh.1, hW.trans hh.2⟩))
  have HI : Hq (∀ (j : Nat) (hj : j < its.length) (l' : Bs) (W : World), PrW w0.heap.size b l' ls (n : Int) w W → l'.length + its[j].length ≤ 140737488355328 → Calls Tryz.prog F #[rc, .int .i64 (j : Int), .int .i64 ((lev : Int) + 1)] W (PrPost w0.heap.size b (l' ++ its[j]) ls (n : Int) w)) := hq (fun j hj l' W hW h1 => (hit j hj l' W (hb.trans hW.2.1) hW.1 h1).mono (fun e W' hh => ⟨hh.1, hW.trans hh.2⟩))
  have H0 := hq (PrW.none h)
  have HP : Hq (∀ (q : Bs) W', q = l ++ listB ls n lev o c its → PrW w0.heap.size b q ls (n : Int) w W' → PrPost w0.heap.size b (l ++ listB ls n lev o c its) ls (n : Int) w (.returned (.tuple #[])) W') := hq (fun q W' he h2 => ⟨rfl, he ▸ h2⟩)
  have HLB : Hq (listB ls n lev o c its = o :: (commaB (lnB ls n (lev + 1)) its ++ (if its = [] then [] else lnB ls n lev) ++ [c])) := hq rfl
  generalize PrPost w0.heap.size b (l ++ listB ls n lev o c its) ls (n : Int) w = PP at *
  generalize listB ls n lev o c its = LB at *
  have hlb : LB.length = 1 + (commaB (lnB ls n (lev + 1)) its).length + (if its = [] then [] else lnB ls n lev).length + 1 := by rw [HLB.o]; simp; omega
  have HLN := hq (And.intro hl hlb)
  have hle : (lev : Int) ≤ 999999 := by omega
  have hd1 : ((lev + 1 : Nat) : Int) = (lev : Int) + 1 := by omega
  clear h hit hb hl hlb
  have HU := hq (fun l' W hW h0 h1 => HL.o l' (lev + 1) W hW h0 h1)
  rw [hd1] at HU
  have HE := hq (fun l' W hW h0 h1 => HL.o l' lev W hW h0 h1)
  clear HL hd1
  go_enter Tryz.func92, Tryz.ntmps92
  go_wp2_with fail
  refine (HS.o l [o] w H0.o (by have := HLN.o; simp only [List.length_singleton]; omega)).mono ?_
  rintro e w1 ⟨⟨m, rfl⟩, h1⟩
  have H1 := hq h1
  clear h1 H0
  go_wp2_with fail
  go_loopw [19] (fun i wr => ∃ (j : Nat), j ≤ its.length ∧ i = .int .i64 (j : Int) ∧ Hq (PrW w0.heap.size b (l ++ [o] ++ commaB (lnB ls n (lev + 1)) (its.take j)) ls (n : Int) w wr)) (fun i _ => its.length - (intOf i).toNat)
  case atStart => exact ⟨0, Nat.zero_le _, rfl, hq (by simpa [commaB] using H1.o)⟩
  case round =>
    obtain ⟨j, hj, rfl, hp⟩ := hrel
    by_cases h : j < its.length
    · have hz' : (j : Int) < (its.length : Int) := by omega
      have HT := hq (commaB_take (ln := lnB ls n (lev + 1)) h)
      have hlt := commaB_upto (lnB ls n (lev + 1)) its (j + 1)
      rw [HT.o] at hlt
      have HI1 := hq (HI.o j h)
      generalize its[j] = x at *
      generalize commaB (lnB ls n (lev + 1)) (its.take j) = C0 at *
      generalize commaB (lnB ls n (lev + 1)) its = CA at *
      by_cases hj0 : j = 0
      · have HNX : Hq (l ++ [o] ++ C0 ++ lnB ls n (lev + 1) ++ x = l ++ [o] ++ commaB (lnB ls n (lev + 1)) (its.take (j + 1))) := hq (by rw [HT.o, if_pos hj0]; simp)
        have hlt2 : C0.length + (lnB ls n (lev + 1)).length + x.length ≤ CA.length := by
          rw [if_pos hj0] at hlt
          simp only [List.length_append, List.length_nil] at hlt; omega
        have hg : ¬ (0 < (j : Int)) := by omega
        have HU1 := hq (HU.o _ _ hp.o (by omega) (by have := HLN.o; simp only [List.length_append, List.length_singleton]; omega))
        have HX1 := hq (fun W hW => HI1.o (l ++ [o] ++ C0 ++ lnB ls n (lev + 1)) W hW (by have := HLN.o; simp only [List.length_append, List.length_singleton]; omega))
        clear hj0 HT hlt hlt2 HI HI1 HB HU hp HE HS HP HLB HLN H1
        go_wp2_with fail
        refine HU1.o.mono ?_
        rintro e w2 ⟨rfl, h2⟩
        have HX2 := hq (HX1.o w2 h2)
        clear HU1 HX1 h2
        go_wp2_with fail
        refine HX2.o.mono ?_
        rintro e w3 ⟨rfl, h3⟩
        rw [HNX.o] at h3
        have H3 := hq h3
        clear HX2 h3 HNX
        go_wp2_with fail
        go_roundw
        case rel => exact ⟨j + 1, h, int_eq (by omega), H3⟩
        case measure => (try simp [intOf]); omega
      · have HNX : Hq (l ++ [o] ++ C0 ++ [44] ++ lnB ls n (lev + 1) ++ x = l ++ [o] ++ commaB (lnB ls n (lev + 1)) (its.take (j + 1))) := hq (by rw [HT.o, if_neg hj0]; simp)
        have hlt2 : C0.length + 1 + (lnB ls n (lev + 1)).length + x.length ≤ CA.length := by
          rw [if_neg hj0] at hlt
          simp only [List.length_append, List.length_singleton] at hlt; omega
        have hg : 0 < (j : Int) := by omega
        have HB1 := hq (HB.o _ 44 _ hp.o (by have := HLN.o; simp only [List.length_append, List.length_singleton]; omega))
        have HU1 := hq (fun W hW => HU.o (l ++ [o] ++ C0 ++ [44]) W hW (by omega) (by have := HLN.o; simp only [List.length_append, List.length_singleton]; omega))
        have HX1 := hq (fun W hW => HI1.o (l ++ [o] ++ C0 ++ [44] ++ lnB ls n (lev + 1)) W hW (by have := HLN.o; simp only [List.length_append, List.length_singleton]; omega))
        clear HT hlt hlt2 HI HI1 HB HU hp HE HS HP HLB HLN H1
        go_wp2_with fail
        refine HB1.o.mono ?_
        rintro e w4 ⟨rfl, h4⟩
        have HU2 := hq (HU1.o w4 h4)
        clear HB1 HU1 h4
        go_wp2_with fail
        refine HU2.o.mono ?_
        rintro e w2 ⟨rfl, h2⟩
        have HX2 := hq (HX1.o w2 h2)
        clear HU2 HX1 h2
        go_wp2_with fail
        refine HX2.o.mono ?_
        rintro e w3 ⟨rfl, h3⟩
        rw [HNX.o] at h3
        have H3 := hq h3
        clear HX2 h3 HNX
        go_wp2_with fail
        go_roundw
        case rel => exact ⟨j + 1, h, int_eq (by omega), H3⟩
        case measure => (try simp [intOf]); omega
    · have hz' : ¬ (j : Int) < (its.length : Int) := by omega
      have hT : its.take j = its := List.take_of_length_le (by omega)
      rw [hT] at hp
      clear HI HB HU H1 hT
      by_cases he : its = []
      · have hg : ¬ (0 < (its.length : Int)) := by rw [he]; simp
        have HNX : Hq (l ++ [o] ++ commaB (lnB ls n (lev + 1)) its ++ [c] = l ++ LB) := hq (by rw [HLB.o, if_pos he]; simp)
        have HS1 := hq (HS.o _ [c] _ hp.o (by have := HLN.o; simp only [List.length_append, List.length_singleton]; omega))
        generalize commaB (lnB ls n (lev + 1)) its = CA at *
        clear HS HLB HLN HE hp
        go_wp2_with fail
        refine HS1.o.mono ?_
        rintro e w2 ⟨⟨m', rfl⟩, h2⟩
        have HV := hq (HP.o _ w2 HNX.o h2)
        clear HS1 h2 HP HNX
        go_wp2_with fail
        first
          | exact HV.o
          | (go_end0
             exact HV.o)
      · have hg : 0 < (its.length : Int) := by
          have := List.length_pos_iff.2 he
          omega
        have HNX : Hq (l ++ [o] ++ commaB (lnB ls n (lev + 1)) its ++ lnB ls n lev ++ [c] = l ++ LB) := hq (by rw [HLB.o, if_neg he]; simp)
        rw [if_neg he] at HLN
        have HE1 := hq (HE.o _ _ hp.o (by omega) (by have := HLN.o; simp only [List.length_append, List.length_singleton]; omega))
        have HS1 := hq (fun W hW => HS.o (l ++ [o] ++ commaB (lnB ls n (lev + 1)) its ++ lnB ls n lev) [c] W hW (by have := HLN.o; simp only [List.length_append, List.length_singleton]; omega))
        generalize commaB (lnB ls n (lev + 1)) its = CA at *
        generalize lnB ls n lev = LV at *
        clear HS HLB HLN HE hp
        go_wp2_with fail
        refine HE1.o.mono ?_
        rintro e w4 ⟨rfl, h4⟩
        have HS2 := hq (HS1.o w4 h4)
        clear HE1 HS1 h4
        go_wp2_with fail
        refine HS2.o.mono ?_
        rintro e w2 ⟨⟨m', rfl⟩, h2⟩
        have HV := hq (HP.o _ w2 HNX.o h2)
        clear HS2 h2 HP HNX
        go_wp2_with fail
        first
          | exact HV.o
          | (go_end0
             exact HV.o)
end Go.Proofs.YtnlkokgekjlmmaaGreatDoor
