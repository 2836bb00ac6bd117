/-
  WALK: pointer.Index: a step as a number.
  WALK: pointer.below: the number of the item to which a step leads.
  WALK: the iterator of pointer.nodes: from a tree on down along a path.
  WALKS: pointer.nodes, pointer.lead.
  WALK: pointer.Find.
-/
import Derived.Test.YtnlkokgekjlmmaaGreatDoorNumKW
import Derived.Lib.Atoi
import Derived.Test.YtnlkokgekjlmmaaGreatDoorVtUB
import Derived.BigQuiet
import Derived.Test.YtnlkokgekjlmmaaGreatDoorBas
import Derived.Test.YtnlkokgekjlmmaaGreatDoorVtNT
import Derived.Test.YtnlkokgekjlmmaaGreatDoorRua
namespace Go.Proofs.YtnlkokgekjlmmaaGreatDoor
open Go.RowKit
def digV (s : ByteArray) (pos : Nat) : Prop := 48 ≤ byt s pos ∧ byt s pos ≤ 57
theorem decFrom_digs : ∀ (l : Bs) (acc : Nat), (∀ k (h : k < l.length), 48 ≤ l[k].toNat ∧ l[k].toNat ≤ 57) → ∃ n, Lib.decFrom acc l = some n
 | [], acc, _ => ⟨acc, rfl⟩
 | b :: r, acc, h => by
   have h0 := h 0 (by simp)
   simp only [List.getElem_cons_zero] at h0
   obtain ⟨n, hn⟩ := decFrom_digs r (acc * 10 + (b.toNat - 48)) (fun k hk => h (k + 1) (by simpa using hk))
   refine ⟨n, ?_⟩
   simp only [Lib.decFrom, Lib.digitVal]
   rw [if_pos h0]
   exact hn
theorem decFrom_bad {l : Bs} {k : Nat} (hk : k < l.length) (h : ¬ (48 ≤ l[k].toNat ∧ l[k].toNat ≤ 57)) (acc : Nat) : Lib.decFrom acc l = none := by
 cases hd : Lib.decFrom acc l with
 | none => rfl
 | some n =>
   obtain ⟨d, hdv⟩ := Lib.digit_of_decFrom l acc n hd k l[k] (by simp [hk])
   unfold Lib.digitVal at hdv
   rw [if_neg h] at hdv
   cases hdv
def indexM (l : Bs) : Option Nat := if l = [] ∨ 9 < l.length ∨ (l.head? = some 48 ∧ l ≠ [48]) then none else Lib.decNat l
def IdxPost (l : Bs) (w : World) (e : Ending) (w' : World) : Prop := e = .returned (.tuple #[.int .i64 (((indexM l).getD 0 : Nat) : Int), .bool (indexM l).isSome]) ∧ Below w.heap.size w w'
theorem bytT (s : ByteArray) (k : Nat) (hk : k < s.data.toList.length) : (s.data.toList[k]).toNat = byt s k := by
 rw [byt_eq s k (by rw [Array.length_toList] at hk; exact hk)]; rfl
theorem index_no {s : ByteArray} (h0 : s.data.toList ≠ []) {k : Nat} (hk : k < s.data.toList.length) (h : ¬ (48 ≤ byt s k ∧ byt s k ≤ 57)) : indexM s.data.toList = none := by
 unfold indexM
 split
 · rfl
 · unfold Lib.decNat
   rw [if_neg (by rw [List.isEmpty_iff]; exact h0)]
   exact decFrom_bad hk (by rw [bytT s k hk]; exact h) 0
theorem index_yes {s : ByteArray} (h0 : s.data.toList ≠ []) (h9 : s.data.toList.length ≤ 9) (h1 : ¬ (s.data.toList.head? = some 48 ∧ s.data.toList ≠ [48])) (hd : ∀ j, j < s.data.toList.length → 48 ≤ byt s j ∧ byt s j ≤ 57) : ∃ n : Nat, indexM s.data.toList = some n ∧ Lib.atoi s.data.toList = some (n : Int) := by
 obtain ⟨n, hn⟩ := decFrom_digs s.data.toList 0 (fun k hk => by rw [bytT s k hk]; exact hd k hk)
 have hdn : Lib.decNat s.data.toList = some n := by
  unfold Lib.decNat
  rw [if_neg (by rw [List.isEmpty_iff]; exact h0)]
  exact hn
 refine ⟨n, ?_, ?_⟩
 · unfold indexM
   rw [if_neg (not_or.2 ⟨h0, not_or.2 ⟨by omega, h1⟩⟩)]
   exact hdn
 · have hl : 0 < s.data.toList.length := List.length_pos_iff.2 h0
   have hb := hd 0 hl
   have h00 := bytT s 0 hl
   cases hc : s.data.toList with
   | nil => exact absurd hc h0
   | cons b r =>
     simp only [hc, List.getElem_cons_zero] at h00
     rw [hc] at hdn
     have e45 : (b == 45) = false := by rw [beq_eq_false_iff_ne]; intro h; rw [h] at h00; have : (45 : UInt8).toNat = 45 := rfl; omega
     have e43 : (b == 43) = false := by rw [beq_eq_false_iff_ne]; intro h; rw [h] at h00; have : (43 : UInt8).toNat = 43 := rfl; omega
     simp only [Lib.atoi, e45, e43, hdn]
     rfl
theorem head_byt {s : ByteArray} (hz : 0 < s.size) : s.data.toList.head? = some 48 ↔ ((s[0].toNat : Nat) : Int) = 48 := by
 have hl : 0 < s.data.toList.length := by rw [Array.length_toList]; exact hz
 have h1 := bytT s 0 hl
 rw [byt_eq s 0 hz] at h1
 rw [List.head?_eq_getElem?, List.getElem?_eq_getElem hl, Option.some.injEq]
 constructor
 · intro h; rw [h] at h1; rw [← h1]; rfl
 · intro h; apply UInt8.toNat_inj.1; rw [h1]; have : (48 : UInt8).toNat = 48 := rfl; omega
set_option maxHeartbeats 4000000 in
set_option maxRecDepth 1000000 in
theorem index_step (s : ByteArray) (w : World) (hs : s.size ≤ maxLen) : Calls Tryz.prog 129 #[.string s] w (IdxPost s.data.toList w) := by
 unfold maxLen at hs
 have hsl : s.data.toList.length = s.size := by rw [Array.length_toList]; rfl
 have HNO : Hq (∀ W', indexM s.data.toList = none → Below w.heap.size w W' → IdxPost s.data.toList w (.returned (.tuple #[.int .i64 0, .bool false])) W') := hq (fun W' h h2 => ⟨by rw [h]; rfl, h2⟩)
 have HYES : Hq (∀ n W', indexM s.data.toList = some n → Below w.heap.size w W' → IdxPost s.data.toList w (.returned (.tuple #[.int .i64 ((n : Nat) : Int), .bool true])) W') := hq (fun n W' h h2 => ⟨by rw [h]; rfl, h2⟩)
 generalize IdxPost s.data.toList w = PP at *
 have HAT := hq (fun (W : World) (n : Nat) (h : Lib.atoi s.data.toList = some (n : Int)) (h9 : s.size ≤ 9) => Tryz.strconv_Atoi s n (by omega) h W)
 go_enter Tryz.func129, Tryz.ntmps129
 by_cases h0 : s.data.toList = []
 · have hz : s.size = 0 := by rw [← hsl, h0]; rfl
   have HV := hq (HNO.o w (by unfold indexM; rw [if_pos (.inl h0)]) (Below.refl _ _))
   have e1 : s.toList.isEmpty = true := by rw [Lib.toList_data, h0]; rfl
   clear HNO HYES
   go_wp2
   exact HV.o
 have e1 : s.toList.isEmpty = false := by rw [Lib.toList_data]; cases hh : s.data.toList with | nil => exact absurd hh h0 | cons _ _ => rfl
 have hz : 0 < s.size := by rw [← hsl]; exact List.length_pos_iff.2 h0
 by_cases h9 : 9 < s.size
 · have HV := hq (HNO.o w (by unfold indexM; rw [if_pos (.inr (.inl (by rw [hsl]; exact h9)))]) (Below.refl _ _))
   clear HNO HYES
   go_wp2
   exact HV.o
 have HNC := hq (fun (k : Nat) (hk : k < s.size) (h : ¬ (48 ≤ byt s k ∧ byt s k ≤ 57)) => index_no h0 (by rw [hsl]; exact hk) h)
 by_cases h1 : s.data.toList.head? = some 48 ∧ s.data.toList ≠ [48]
 · have HV := hq (HNO.o w (by unfold indexM; rw [if_pos (.inr (.inr h1))]) (Below.refl _ _))
   have e2 : (s.toList == [48]) = false := by rw [Lib.toList_data]; exact beq_eq_false_iff_ne.2 h1.2
   have e3 : ((s[0].toNat : Nat) : Int) = 48 := (head_byt hz).1 h1.1
   clear HNO HYES HNC HAT
   go_wp2
   exact HV.o
 have HYC := hq (fun (hd : ∀ j, j < s.size → 48 ≤ byt s j ∧ byt s j ≤ 57) => index_yes h0 (by omega) h1 (by rw [hsl]; exact hd))
 have e2 : (((s[0].toNat : Nat) : Int) = 48 ∧ (s.toList == [48]) = true) ∨ ¬ ((s[0].toNat : Nat) : Int) = 48 := by
  by_cases h : ((s[0].toNat : Nat) : Int) = 48
  · refine .inl ⟨h, ?_⟩
    rw [Lib.toList_data, beq_iff_eq]
    exact Classical.not_not.1 (fun hn => h1 ⟨(head_byt hz).2 h, hn⟩)
  · exact .inr h
 clear h1
 have HATP := hq h9
 rcases e2 with ⟨e2, e3⟩ | e2
 all_goals
  go_wp2
  go_loopw [] (fun wr => ∃ (pos : Nat), pos ≤ s.size ∧ wr.heap[w.heap.size]? = some (.stringIter s pos) ∧ Below w.heap.size w wr ∧ Hq (∀ j, j < pos → 48 ≤ byt s j ∧ byt s j ≤ 57)) (fun wr => s.size - wr.iterPos w.heap.size)
  case atStart => exact ⟨0, by omega, World.iter_heap w s 0, (Below.refl _ _).alloc (Nat.le_refl _) _, hq (fun j h => by omega)⟩
  case round =>
   obtain ⟨pos, hps, hit, hb, hd⟩ := hrel
   have hlt : w.heap.size < wr.heap.size := (Array.getElem?_eq_some_iff.1 hit).1
   by_cases hp : pos < s.size
   · have hnx : ∀ ty, (Instr.next (.pointer (some ⟨w.heap.size, 0, none⟩)) true ty).run Tryz.prog wr = _ := fun ty => Lib.run_next_any_at wr w.heap.size s pos ty hit hp
     have hwp := wd_pos s pos
     have hdl := decode_le s pos
     have hit2 := Lib.iterAt_heap wr w.heap.size s pos (pos + (Utf8.decode s pos).2) hit
     have hb2 := Lib.below_iterAt hb (k := w.heap.size) (Nat.le_refl _) s (pos + (Utf8.decode s pos).2)
     have hlow : Hq (byt s pos < 128 → (Utf8.decode s pos) = (byt s pos, 1)) := hq (dec_low s pos)
     have hhigh : Hq (128 ≤ byt s pos → 128 ≤ (Utf8.decode s pos).1) := hq (dec_high s pos)
     by_cases hdig : 48 ≤ byt s pos ∧ byt s pos ≤ 57
     · have e1 := hlow.o (by omega)
       have HW : Hq ((Utf8.decode s pos).2 = 1) := hq (by rw [e1])
       have hC1 : (48 : Int) ≤ ((Utf8.decode s pos).1 : Int) := by rw [e1]; simp only; omega
       have hC2 : ((Utf8.decode s pos).1 : Int) ≤ 57 := by rw [e1]; simp only; omega
       clear e1
       go_wp2
       go_roundw
       case rel => exact ⟨pos + (Utf8.decode s pos).2, by rw [HW.o]; omega, hit2, hb2, hq (fun j hj => by
        rw [HW.o] at hj
        by_cases hjp : j = pos
        · subst hjp; exact hdig
        · exact hd.o j (by omega))⟩
       case measure => simp only [World.iterPos, hit2, hit]; rw [HW.o]; omega
     · have HV := hq (fun W' h => HNO.o W' (HNC.o pos hp hdig) h)
       have hC : ((Utf8.decode s pos).1 : Int) < 48 ∨ (57 : Int) < ((Utf8.decode s pos).1 : Int) := by
        by_cases h128 : byt s pos < 128
        · rw [hlow.o h128]; simp only; omega
        · have := hhigh.o (by omega); omega
       clear hdig
       rcases hC with hC | hC
       · go_wp2
         exact HV.o _ hb2
       · by_cases hC' : ((Utf8.decode s pos).1 : Int) < 48
         · omega
         · go_wp2
           exact HV.o _ hb2
   · obtain rfl : pos = s.size := by omega
     have hnx : ∀ ty, (Instr.next (.pointer (some ⟨w.heap.size, 0, none⟩)) true ty).run Tryz.prog wr = _ := fun ty => Lib.run_next_end_at wr w.heap.size s s.size ty hit hp
     obtain ⟨n, hn, ha⟩ := HYC.o hd.o
     have HC := hq (fun W => HAT.o W n ha (by omega))
     have HV := hq (fun W' h => HYES.o n W' hn h)
     clear hn ha
     go_wp2_with fail
     refine (HC.o _).mono ?_
     rintro e w2 ⟨rfl, tt, rfl⟩
     have hb3 := below_or hb (.inr rfl : Lib.bytesWorld wr 5 tt = wr ∨ _)
     go_wp2_with fail
     go_region
     go_wp2_with fail
     exact HV.o _ ⟨hb3.os, hb3.tape, hb3.output, hb3.size, hb3.block⟩
def belowM (v : Vl) (s : Bs) : Int × Bool :=
 if v.k = 6 then (ixI v.ks s, decide (0 ≤ ixI v.ks s))
 else if v.k = 5 then ((((indexM s).getD 0 : Nat) : Int), (indexM s).isSome && decide ((indexM s).getD 0 < v.is.length))
 else (0, false)
def BlwPost (r : Int × Bool) (w : World) (e : Ending) (w' : World) : Prop := e = .returned (.tuple #[.int .i64 r.1, .bool r.2]) ∧ Below w.heap.size w w'
end Go.Proofs.YtnlkokgekjlmmaaGreatDoor
namespace Go.Proofs.YtnlkokgekjlmmaaGreatDoor
open Go.RowKit Go.Shelf
attribute [local go_sem] Oper.semAt_some
def nodesM : List Bs → Nat × Nat × Vt → List (Nat × Nat × Vt)
 | [], y => [y]
 | s :: r, y => y :: (if (belowM y.2.2.m s).2 = true then (match y.2.2.o, y.2.2.is[(belowM y.2.2.m s).1.toNat]? with
   | some a, some z => nodesM r (a.block, a.off + (belowM y.2.2.m s).1.toNat * 4, z)
   | _, _ => []) else [])
def KpN (n₀ b1 b2 : Nat) (A B : World) : Prop := Below n₀ A B ∧ B.heap[b1]? = A.heap[b1]? ∧ B.heap[b2]? = A.heap[b2]?
end Go.Proofs.YtnlkokgekjlmmaaGreatDoor
namespace Go.Proofs.YtnlkokgekjlmmaaGreatDoor
open Go.RowKit Go.Shelf
attribute [local go_sem] Oper.semAt_some
def lastP (v : Value) (l : List (Nat × Nat × Vt)) : Value := match l.getLast? with
 | some y => .pointer (some ⟨y.1, y.2.1, none⟩)
 | none => v
def LeadPost (LL : List (Nat × Nat × Vt)) (n : Nat) (v : Value) (w : World) (e : Ending) (w' : World) : Prop := e = .returned (.tuple #[lastP v LL, .bool (decide (LL.length = n + 1))]) ∧ Below w.heap.size w w'
def pgetM : List Bs → Vl → Option Vl
 | [], v => some v
 | s :: r, v => if (belowM v s).2 = true then (match v.is[(belowM v s).1.toNat]? with
   | some z => pgetM r z
   | none => none) else none
def pfindM (v : Vl) (path : List Bs) : Option Vl := if pgoodB path = true ∧ openM v = true then pgetM path v else none
end Go.Proofs.YtnlkokgekjlmmaaGreatDoor
