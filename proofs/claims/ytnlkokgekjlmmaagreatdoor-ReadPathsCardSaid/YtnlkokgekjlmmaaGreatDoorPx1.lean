/-
  WALK: pointer.Index: a step as a number.
  WALK: pointer.below: the number of the item to which a step leads.
  WALK: the iterator of pointer.nodes: from a tree on down along a path.
  WALKS: pointer.nodes, pointer.lead.
  WALK: pointer.Find.
-/
import Derived.Test.YtnlkokgekjlmmaaGreatDoorNumKW
import Derived.Lib.Atoi
import Derived.Test.YtnlkokgekjlmmaaGreatDoorVtUB
import Derived.BigQuiet
import Derived.Test.YtnlkokgekjlmmaaGreatDoorBas
import Derived.Test.YtnlkokgekjlmmaaGreatDoorVtNT
import Derived.Test.YtnlkokgekjlmmaaGreatDoorRua

namespace Go.Proofs.YtnlkokgekjlmmaaGreatDoor
open Go.RowKit

def digV (s : ByteArray) (pos : Nat) : Prop := 48 ≤ byt s pos ∧ byt s pos ≤ 57
theorem decFrom_digs : ∀ (l : Bs) (acc : Nat), (∀ k (h : k < l.length), 48 ≤ l[k].toNat ∧ l[k].toNat ≤ 57) → ∃ n, Lib.decFrom acc l = some n
  | [], acc, _ => ⟨acc, rfl⟩
  | b :: r, acc, h => by
    have h0 := h 0 (by simp)
    simp only [List.getElem_cons_zero] at h0
    obtain ⟨n, hn⟩ := decFrom_digs r (acc * 10 + (b.toNat - 48)) (fun k hk => h (k + 1) (by simpa using hk))
    refine ⟨n, ?_⟩
    simp only [Lib.decFrom, Lib.digitVal]
    rw [if_pos h0]
    exact hn
theorem decFrom_bad {l : Bs} {k : Nat} (hk : k < l.length) (h : ¬ (48 ≤ l[k].toNat ∧ l[k].toNat ≤ 57)) (acc : Nat) : Lib.decFrom acc l = none := by
  cases hd : Lib.decFrom acc l with
  | none => rfl
  | some n =>
    obtain ⟨d, hdv⟩ := Lib.digit_of_decFrom l acc n hd k l[k] (by simp [hk])
    unfold Lib.digitVal at hdv
    rw [if_neg h] at hdv
    cases hdv
/-- a step as a number -/
def indexM (l : Bs) : Option Nat := if l = [] ∨ 9 < l.length ∨ (l.head? = some 48 ∧ l ≠ [48]) then none else Lib.decNat l
def IdxPost (l : Bs) (w : World) (e : Ending) (w' : World) : Prop := e = .returned (.tuple #[.int .i64 (((indexM l).getD 0 : Nat) : Int), .bool (indexM l).isSome]) ∧ Below w.heap.size w w'
theorem bytT (s : ByteArray) (k : Nat) (hk : k < s.data.toList.length) : (s.data.toList[k]).toNat = byt s k := by
  rw [byt_eq s k (by rw [Array.length_toList] at hk; exact hk)]; rfl
theorem index_no {s : ByteArray} (h0 : s.data.toList ≠ []) {k : Nat} (hk : k < s.data.toList.length) (h : ¬ (48 ≤ byt s k ∧ byt s k ≤ 57)) : indexM s.data.toList = none := by
  unfold indexM
  split
  · rfl
  · unfold Lib.decNat
    rw [if_neg (by rw [List.isEmpty_iff]; exact h0)]
    exact decFrom_bad hk (by rw [bytT s k hk]; exact h) 0
theorem index_yes {s : ByteArray} (h0 : s.data.toList ≠ []) (h9 : s.data.toList.length ≤ 9) (h1 : ¬ (s.data.toList.head? = some 48 ∧ s.data.toList ≠ [48])) (hd : ∀ j, j < s.data.toList.length → 48 ≤ byt s j ∧ byt s j ≤ 57) : ∃ n : Nat, indexM s.data.toList = some n ∧ Lib.atoi s.data.toList = some (n : Int) := by
  obtain ⟨n, hn⟩ := decFrom_digs s.data.toList 0 (fun k hk => by rw [bytT s k hk]; exact hd k hk)
  have hdn : Lib.decNat s.data.toList = some n := by
    unfold Lib.decNat
    rw [if_neg (by rw [List.isEmpty_iff]; exact h0)]
    exact hn
  refine ⟨n, ?_, ?_⟩
  · unfold indexM
    rw [if_neg (not_or.2 ⟨h0, not_or.2 ⟨by omega, h1⟩⟩)]
    exact hdn
  · have hl : 0 < s.data.toList.length := List.length_pos_iff.2 h0
    have hb := hd 0 hl
    have h00 := bytT s 0 hl
    cases hc : s.data.toList with
    | nil => exact absurd hc h0
    | cons b r =>
      simp only [hc, List.getElem_cons_zero] at h00
      rw [hc] at hdn
      have e45 : (b == 45) = false := by rw [beq_eq_false_iff_ne]; intro h; rw [h] at h00; have : (45 : UInt8).toNat = 45 := rfl; omega
      have e43 : (b == 43) = false := by rw [beq_eq_false_iff_ne]; intro h; rw [h] at h00; have : (43 : UInt8).toNat = 43 := rfl; omega
      simp only [Lib.atoi, e45, e43, hdn]
      rfl
theorem head_byt {s : ByteArray} (hz : 0 < s.size) : s.data.toList.head? = some 48 ↔ ((s[0].toNat : Nat) : Int) = 48 := by
  have hl : 0 < s.data.toList.length := by rw [Array.length_toList]; exact hz
  have h1 := bytT s 0 hl
  rw [byt_eq s 0 hz] at h1
  rw [List.head?_eq_getElem?, List.getElem?_eq_getElem hl, Option.some.injEq]
  constructor
  · intro h; rw [h] at h1; rw [← h1]; rfl
  · intro h; apply UInt8.toNat_inj.1; rw [h1]; have : (48 : UInt8).toNat = 48 := rfl; omega
set_option maxHeartbeats 4000000 in
set_option maxRecDepth 1000000 in
theorem index_step (s : ByteArray) (w : World) (hs : s.size ≤ maxLen) : Calls Tryz.prog 129 #[.string s] w (IdxPost s.data.toList w) := by
  unfold maxLen at hs
  have hsl : s.data.toList.length = s.size := by rw [Array.length_toList]; rfl
  have HNO : Hq (∀ W', indexM s.data.toList = none → Below w.heap.size w W' → IdxPost s.data.toList w (.returned (.tuple #[.int .i64 0, .bool false])) W') := hq (fun W' h h2 => ⟨by rw [h]; rfl, h2⟩)
  have HYES : Hq (∀ n W', indexM s.data.toList = some n → Below w.heap.size w W' → IdxPost s.data.toList w (.returned (.tuple #[.int .i64 ((n : Nat) : Int), .bool true])) W') := hq (fun n W' h h2 => ⟨by rw [h]; rfl, h2⟩)
  generalize IdxPost s.data.toList w = PP at *
  have HAT := hq (fun (W : World) (n : Nat) (h : Lib.atoi s.data.toList = some (n : Int)) (h9 : s.size ≤ 9) => Tryz.strconv_Atoi s n (by omega) h W)
  go_enter Tryz.func129, Tryz.ntmps129
  by_cases h0 : s.data.toList = []
  · have hz : s.size = 0 := by rw [← hsl, h0]; rfl
    have HV := hq (HNO.o w (by unfold indexM; rw [if_pos (.inl h0)]) (Below.refl _ _))
    have e1 : s.toList.isEmpty = true := by rw [Lib.toList_data, h0]; rfl
    clear HNO HYES
    go_wp2
    exact HV.o
  have e1 : s.toList.isEmpty = false := by rw [Lib.toList_data]; cases hh : s.data.toList with | nil => exact absurd hh h0 | cons _ _ => rfl
  have hz : 0 < s.size := by rw [← hsl]; exact List.length_pos_iff.2 h0
  by_cases h9 : 9 < s.size
  · have HV := hq (HNO.o w (by unfold indexM; rw [if_pos (.inr (.inl (by rw [hsl]; exact h9)))]) (Below.refl _ _))
    clear HNO HYES
    go_wp2
    exact HV.o
  have HNC := hq (fun (k : Nat) (hk : k < s.size) (h : ¬ (48 ≤ byt s k ∧ byt s k ≤ 57)) => index_no h0 (by rw [hsl]; exact hk) h)
  by_cases h1 : s.data.toList.head? = some 48 ∧ s.data.toList ≠ [48]
  · have HV := hq (HNO.o w (by unfold indexM; rw [if_pos (.inr (.inr h1))]) (Below.refl _ _))
    have e2 : (s.toList == [48]) = false := by rw [Lib.toList_data]; exact beq_eq_false_iff_ne.2 h1.2
    have e3 : ((s[0].toNat : Nat) : Int) = 48 := (head_byt hz).1 h1.1
    clear HNO HYES HNC HAT
    go_wp2
    exact HV.o
  have HYC := hq (fun (hd : ∀ j, j < s.size → 48 ≤ byt s j ∧ byt s j ≤ 57) => index_yes h0 (by omega) h1 (by rw [hsl]; exact hd))
  have e2 : (((s[0].toNat : Nat) : Int) = 48 ∧ (s.toList == [48]) = true) ∨ ¬ ((s[0].toNat : Nat) : Int) = 48 := by
    by_cases h : ((s[0].toNat : Nat) : Int) = 48
    · refine .inl ⟨h, ?_⟩
      rw [Lib.toList_data, beq_iff_eq]
      exact Classical.not_not.1 (fun hn => h1 ⟨(head_byt hz).2 h, hn⟩)
    · exact .inr h
  clear h1
  have HATP := hq h9
  rcases e2 with ⟨e2, e3⟩ | e2
  all_goals
    go_wp2
    go_loopw [] (fun wr => ∃ (pos : Nat), pos ≤ s.size ∧ wr.heap[w.heap.size]? = some (.stringIter s pos) ∧ Below w.heap.size w wr ∧ Hq (∀ j, j < pos → 48 ≤ byt s j ∧ byt s j ≤ 57)) (fun wr => s.size - wr.iterPos w.heap.size)
    case atStart => exact ⟨0, by omega, World.iter_heap w s 0, (Below.refl _ _).alloc (Nat.le_refl _) _, hq (fun j h => by omega)⟩
    case round =>
      obtain ⟨pos, hps, hit, hb, hd⟩ := hrel
      have hlt : w.heap.size < wr.heap.size := (Array.getElem?_eq_some_iff.1 hit).1
      by_cases hp : pos < s.size
      · have hnx : ∀ ty, (Instr.next (.pointer (some ⟨w.heap.size, 0, none⟩)) true ty).run Tryz.prog wr = _ := fun ty => Lib.run_next_any_at wr w.heap.size s pos ty hit hp
        have hwp := wd_pos s pos
        have hdl := decode_le s pos
        have hit2 := Lib.iterAt_heap wr w.heap.size s pos (pos + (Utf8.decode s pos).2) hit
        have hb2 := Lib.below_iterAt hb (k := w.heap.size) (Nat.le_refl _) s (pos + (Utf8.decode s pos).2)
        have hlow : Hq (byt s pos < 128 → (Utf8.decode s pos) = (byt s pos, 1)) := hq (dec_low s pos)
        have hhigh : Hq (128 ≤ byt s pos → 128 ≤ (Utf8.decode s pos).1) := hq (dec_high s pos)
        by_cases hdig : 48 ≤ byt s pos ∧ byt s pos ≤ 57
        · have e1 := hlow.o (by omega)
          have HW : Hq ((Utf8.decode s pos).2 = 1) := hq (by rw [e1])
          have hC1 : (48 : Int) ≤ ((Utf8.decode s pos).1 : Int) := by rw [e1]; simp only; omega
          have hC2 : ((Utf8.decode s pos).1 : Int) ≤ 57 := by rw [e1]; simp only; omega
          clear e1
          go_wp2
          go_roundw
          case rel => exact ⟨pos + (Utf8.decode s pos).2, by rw [HW.o]; omega, hit2, hb2, hq (fun j hj => by
            rw [HW.o] at hj
            by_cases hjp : j = pos
            · subst hjp; exact hdig
            · exact hd.o j (by omega))⟩
          case measure => simp only [World.iterPos, hit2, hit]; rw [HW.o]; omega
        · have HV := hq (fun W' h => HNO.o W' (HNC.o pos hp hdig) h)
          have hC : ((Utf8.decode s pos).1 : Int) < 48 ∨ (57 : Int) < ((Utf8.decode s pos).1 : Int) := by
            by_cases h128 : byt s pos < 128
            · rw [hlow.o h128]; simp only; omega
            · have := hhigh.o (by omega); omega
          clear hdig
          rcases hC with hC | hC
          · go_wp2
            exact HV.o _ hb2
          · by_cases hC' : ((Utf8.decode s pos).1 : Int) < 48
            · omega
            · go_wp2
              exact HV.o _ hb2
      · obtain rfl : pos = s.size := by omega
        have hnx : ∀ ty, (Instr.next (.pointer (some ⟨w.heap.size, 0, none⟩)) true ty).run Tryz.prog wr = _ := fun ty => Lib.run_next_end_at wr w.heap.size s s.size ty hit hp
        obtain ⟨n, hn, ha⟩ := HYC.o hd.o
        have HC := hq (fun W => HAT.o W n ha (by omega))
        have HV := hq (fun W' h => HYES.o n W' hn h)
        clear hn ha
        go_wp2_with fail
        refine (HC.o _).mono ?_
        rintro e w2 ⟨rfl, tt, rfl⟩
        have hb3 := below_or hb (.inr rfl : Lib.bytesWorld wr 5 tt = wr ∨ _)
        go_wp2_with fail
        go_region
        go_wp2_with fail
        exact HV.o _ ⟨hb3.os, hb3.tape, hb3.output, hb3.size, hb3.block⟩
end Go.Proofs.YtnlkokgekjlmmaaGreatDoor

namespace Go.Proofs.YtnlkokgekjlmmaaGreatDoor
open Go.RowKit

/-- the item to which a step leads -/
def belowM (v : Vl) (s : Bs) : Int × Bool :=
  if v.k = 6 then (ixI v.ks s, decide (0 ≤ ixI v.ks s))
  else if v.k = 5 then ((((indexM s).getD 0 : Nat) : Int), (indexM s).isSome && decide ((indexM s).getD 0 < v.is.length))
  else (0, false)
def BlwPost (r : Int × Bool) (w : World) (e : Ending) (w' : World) : Prop := e = .returned (.tuple #[.int .i64 r.1, .bool r.2]) ∧ Below w.heap.size w w'
set_option maxHeartbeats 4000000 in
set_option maxRecDepth 1000000 in
theorem below_any (x : Vt) (ib ip : Nat) (step : Bs) (w : World) (hok : x.Ok w) (hit : ItemAt w ib ip x) (hs : step.length ≤ maxLen) : Calls Tryz.prog 177 #[.pointer (some ⟨ib, ip, none⟩), .string (st step)] w (BlwPost (belowM x.m step) w) := by
  obtain ⟨k, t, ⟨ko, kc, kl⟩, o, c, is⟩ := x
  have hkl : kl.length ≤ kc := hok.hks.le
  have hkc : kc ≤ maxLen := hok.hks.cp
  have hcl := hok.hl
  have hcc := hok.hc
  have HIX := hq (index_any ko kc kl step w hkl hkc (hok.hks.rd))
  have HIN := hq (index_step (st step) w (by rw [st_size]; exact hs))
  unfold maxLen at hcc hs
  have c0 : w.cell? ⟨ib, ip, none⟩ = some (.int .i64 k) := hit.c0
  have c2 : w.cell? ⟨ib, ip + 2, none⟩ = some (.slice ko kl.length kc) := hit.c2
  have c3 : w.cell? ⟨ib, ip + 3, none⟩ = some (.slice o is.length c) := hit.c3
  have HM : Hq (belowM (Vt.mk k t ⟨ko, kc, kl⟩ o c is).m step = if k = 6 then (ixI kl step, decide (0 ≤ ixI kl step)) else if k = 5 then ((((indexM step).getD 0 : Nat) : Int), (indexM step).isSome && decide ((indexM step).getD 0 < is.length)) else (0, false)) := hq (by
    rw [Vt.m_mk]
    unfold belowM
    simp only [Vl.k, Vl.ks, Vl.is, List.length_map]
    rfl)
  generalize belowM (Vt.mk k t ⟨ko, kc, kl⟩ o c is).m step = R at *
  have HP : Hq (∀ a b W', R = (a, b) → Below w.heap.size w W' → BlwPost R w (.returned (.tuple #[.int .i64 a, .bool b])) W') := hq (fun a b W' h1 h2 => ⟨by rw [h1], h2⟩)
  generalize BlwPost R w = PP at *
  clear hok hit
  go_enter Tryz.func177, Tryz.ntmps177
  by_cases h6 : k = 6
  · have HV := hq (fun W' => HP.o _ _ W' (by rw [HM.o, if_pos h6]))
    clear HM HP HIN
    generalize ixI kl step = ix at *
    subst h6
    go_wp2_with fail
    refine HIX.o.mono ?_
    rintro e w2 ⟨rfl, h2⟩
    obtain rfl := h2.symm
    go_wp2_with fail
    exact HV.o _ (Below.refl _ _)
  have e6 : (k == 6) = false := beq_eq_false_iff_ne.2 h6
  by_cases h5 : k = 5
  · have HV := hq (fun W' => HP.o _ _ W' (by rw [HM.o, if_neg h6, if_pos h5]))
    clear HM HP HIX
    generalize ixI kl step = ix at *
    subst h5
    have HC3 := hq c3
    clear c2 c3
    go_wp2_with fail
    refine HIN.o.mono ?_
    rintro e w2 ⟨rfl, hb2⟩
    have c3 := (hb2.cell (p := ⟨ib, ip + 3, none⟩) (cell_blk HC3.o)).trans HC3.o
    have HB2 := hq hb2
    clear HIN hb2 c0 HC3
    cases hI : indexM step with
    | none =>
      rw [hI] at HV
      simp only [Option.getD_none, Option.isSome_none, Bool.false_and] at HV ⊢
      go_wp2_with fail
      go_quiet (fail)
      go_wp2_with fail
      exact HV.o _ ⟨HB2.o.os, HB2.o.tape, HB2.o.output, HB2.o.size, HB2.o.block⟩
    | some n =>
      rw [hI] at HV
      simp only [Option.getD_some, Option.isSome_some, Bool.true_and] at HV ⊢
      go_wp2_with fail
      go_quiet (fail)
      go_wp2_with fail
      exact HV.o _ ⟨HB2.o.os, HB2.o.tape, HB2.o.output, HB2.o.size, HB2.o.block⟩
  · have e5 : (k == 5) = false := beq_eq_false_iff_ne.2 h5
    have HV := hq (fun W' => HP.o _ _ W' (by rw [HM.o, if_neg h6, if_neg h5]))
    clear HM HP HIX HIN c2 c3
    go_wp2_with fail
    exact HV.o _ (Below.refl _ _)
end Go.Proofs.YtnlkokgekjlmmaaGreatDoor

namespace Go.Proofs.YtnlkokgekjlmmaaGreatDoor
open Go.RowKit Go.Shelf
attribute [local go_sem] Oper.semAt_some

/-- the nodes to which the beginnings of a path lead, with their places -/
def nodesM : List Bs → Nat × Nat × Vt → List (Nat × Nat × Vt)
  | [], y => [y]
  | s :: r, y => y :: (if (belowM y.2.2.m s).2 = true then (match y.2.2.o, y.2.2.is[(belowM y.2.2.m s).1.toNat]? with
    | some a, some z => nodesM r (a.block, a.off + (belowM y.2.2.m s).1.toNat * 4, z)
    | _, _ => []) else [])
theorem below_in {k : Int} {t : Bs} {ks : SRow} {o : Option Addr} {c : Nat} {is : List Vt} {s : Bs} (hg : Good (Vt.mk k t ks o c is).m) (hb : (belowM (Vt.mk k t ks o c is).m s).2 = true) :
    ∃ i : Nat, i < is.length ∧ (belowM (Vt.mk k t ks o c is).m s).1 = (i : Int) := by
  rw [Vt.m_mk] at hg hb ⊢
  unfold belowM at hb ⊢
  by_cases h6 : k = 6
  · have e : (Vl.mk k t ks.l (is.map Vt.m)).k = 6 := h6
    rw [if_pos e] at hb ⊢
    have hb1 : 0 ≤ ixI ks.l s := of_decide_eq_true hb
    show ∃ i : Nat, i < is.length ∧ ixI ks.l s = (i : Int)
    have h1 := (hg.obj h6).1
    rw [List.length_map] at h1
    unfold ixI at hb1 ⊢
    cases hx : ixOf ks.l s with
    | none => rw [hx] at hb1; simp at hb1
    | some i =>
      obtain ⟨h2, _⟩ := ixOf_some hx
      exact ⟨i, by omega, rfl⟩
  · have e : ¬ (Vl.mk k t ks.l (is.map Vt.m)).k = 6 := h6
    rw [if_neg e] at hb ⊢
    by_cases h5 : k = 5
    · have e5 : (Vl.mk k t ks.l (is.map Vt.m)).k = 5 := h5
      rw [if_pos e5] at hb ⊢
      simp only [Bool.and_eq_true, decide_eq_true_eq] at hb
      have h2 : (indexM s).getD 0 < (is.map Vt.m).length := hb.2
      rw [List.length_map] at h2
      exact ⟨_, h2, rfl⟩
    · have e5 : ¬ (Vl.mk k t ks.l (is.map Vt.m)).k = 5 := h5
      rw [if_neg e5] at hb
      cases hb
/-- what a round keeps: what lay below n₀, and the iterator's two boxes -/
def KpN (n₀ b1 b2 : Nat) (A B : World) : Prop := Below n₀ A B ∧ B.heap[b1]? = A.heap[b1]? ∧ B.heap[b2]? = A.heap[b2]?
set_option maxRecDepth 100000 in
set_option maxHeartbeats 4000000 in
theorem nodes_gives (b1 b2 : Nat) (x : Vt) (ib ip : Nat) (po : Option Addr) (pc : Nat) (path : List Bs) (w0 w : World) (hx : x.Ok w0) (hg : Good x.m) (hat : ItemAt w0 ib ip x) (hp : (⟨po, pc, path⟩ : SRow).ok w0) (hpt : ∀ s ∈ path, s.length ≤ maxLen)
    (hw : Below w0.heap.size w0 w) (hB1 : Boxed w b1 115 (.pointer (some ⟨ib, ip, none⟩))) (hB2 : Boxed w b2 22 (.slice po path.length pc)) :
    GivesB Fence.wide 9 Tryz.prog 176 #[.pointer (some ⟨b1, 0, none⟩), .pointer (some ⟨b2, 0, none⟩)] (fun y : Nat × Nat × Vt => #[.pointer (some ⟨y.1, y.2.1, none⟩)]) (KpN w0.heap.size b1 b2) b1 (nodesM path (ib, ip, x)) w := by
  intro l J W hW hJ hF hY h0
  have hB0 : Boxed W b1 115 (.pointer (some ⟨ib, ip, none⟩)) := (hW.block b1 hB1.lt).trans hB1
  have hP0 : Boxed W b2 22 (.slice po path.length pc) := (hW.block b2 hB2.lt).trans hB2
  have HJ := hq (fun pre A C (hj : J pre A) (hb : Below A.heap.size A C) => (hJ pre A C none hj ⟨hb.os, hb.tape, hb.output, hb.size, fun k hk _ => hb.block k hk⟩ (fun r e => by cases e) : J pre C))
  have HW := hq (hw.trans (hW.mono hw.size))
  have HY := hq hY
  obtain ⟨LL, hLL⟩ : ∃ LL, LL = nodesM path (ib, ip, x) := ⟨_, rfl⟩
  have HLL : Hq (LL = [] ++ nodesM (path.drop 0) (ib, ip, x)) := hq hLL
  rw [← hLL] at HY ⊢
  have HX := hq (And.intro hx (And.intro hg (And.intro hat (And.intro hp hpt))))
  have hpl : path.length ≤ pc := hp.le
  have hpc : pc ≤ maxLen := hp.cp
  unfold maxLen at hpc
  clear hW hJ hF hY hB1 hB2 hLL hx hg hat hp hpt hw
  refine callsIn_of_wp Tryz.func176 rfl trivial ?_ rfl
  simp only [Tryz.ntmps176, List.size_toArray, List.length_cons, List.length_nil, Nat.reduceAdd, Nat.reduceSub, Array.replicate_succ, Array.replicate_zero, List.push_toArray, List.append_toArray, List.nil_append, List.cons_append]
  have p0 := hB0.cell
  have p1 := hP0.cell
  clear hB0 hP0
  gi_wp2
  clear p0 p1
  gi_loopw [4, 12] (fun at' j wr => ∃ (i : Nat) (y : Vt) (yb yp : Nat) (pre : List (Nat × Nat × Vt)), i ≤ path.length ∧ at' = .pointer (some ⟨yb, yp, none⟩) ∧ j = .int .i64 (i : Int) ∧ J pre wr ∧ Below w0.heap.size w0 wr ∧ Hq (LL = pre ++ nodesM (path.drop i) (yb, yp, y)) ∧ Hq (y.Ok w0 ∧ Good y.m ∧ ItemAt w0 yb yp y)) (fun _ j _ => path.length - (intOf j).toNat)
  case atStart => exact ⟨0, x, ib, ip, [], Nat.zero_le _, rfl, rfl, h0, HW.o, HLL, hq ⟨HX.o.1, HX.o.2.1, HX.o.2.2.1⟩⟩
  case round =>
    obtain ⟨i, y, yb, yp, pre, hi, rfl, rfl, hj, hb, hl, hyy⟩ := hrel
    clear HLL h0 HW
    by_cases hlt : i < path.length
    · have hiz : (i : Int) < (path.length : Int) := by omega
      have hprow := HX.o.2.2.2.1.rd i hlt
      obtain ⟨b, f, rfl, hcell⟩ := hprow
      have hp3 := hpl
      have hcw := (hb.cell (p := ⟨b, f + i, none⟩) (cell_blk hcell)).trans hcell
      have hsl : (path[i]).length ≤ maxLen := HX.o.2.2.2.2 _ (List.getElem_mem hlt)
      have hdr : path.drop i = path[i] :: path.drop (i + 1) := List.drop_eq_getElem_cons hlt
      have HL2 : Hq (LL = (pre ++ [(yb, yp, y)]) ++ (if (belowM y.m path[i]).2 = true then (match y.o, y.is[(belowM y.m path[i]).1.toNat]? with
        | some a, some z => nodesM (path.drop (i + 1)) (a.block, a.off + (belowM y.m path[i]).1.toNat * 4, z)
        | _, _ => []) else [])) := hq (by rw [hl.o, hdr]; simp only [nodesM]; simp)
      have HPR : Hq (pre ++ [(yb, yp, y)] <+: LL) := hq (by rw [HL2.o]; exact List.prefix_append _ _)
      have HBW := hq (fun V (hV : Below w0.heap.size w0 V) => below_any y yb yp path[i] V (hyy.o.1.grow hV) (hyy.o.2.2.grow hV) hsl)
      simp only at hcw
      generalize path[i] = s at *
      obtain ⟨fn, tmps, assign, body, hy, hR⟩ := HY.o pre (yb, yp, y) _ hj HPR.o
      clear hl hdr hsl hcell
      gi_wp2
      refine hR.mono ?_
      rintro e' W3 ⟨rfl, hJ3, hk3⟩
      have HB3 := hq (hb.trans hk3.1)
      have HC := hq (HBW.o W3 HB3.o)
      clear hy hR HBW
      cases hbl : (belowM y.m s).2 with
      | false =>
        gi_wp2_with (refine ⟨trivial, ?_⟩; gi_at_call 177; refine (callsIn_wide.2 HC.o).mono ?_; rintro e' w4 ⟨rfl, hb4⟩; rw [hbl])
        refine bodyPost_ret (results_none rfl _ _ _) rfl ?_
        refine ⟨⟨_, rfl⟩, ?_⟩
        rw [HL2.o, hbl, if_neg (by decide), List.append_nil]
        exact HJ.o _ _ _ hJ3 hb4
      | true =>
        obtain ⟨k, t, ks, o, c, is⟩ := y
        obtain ⟨i', hi', hbi⟩ := below_in (s := s) hyy.o.2.1 hbl
        obtain ⟨bb, ff, rfl, hit⟩ := hyy.o.1.at_ i' hi'
        have HIT := hq hit
        have HPI := hq hbi
        have hok := hyy.o.1.item i' hi'
        have hcl := hyy.o.1.hl
        have hcc := hyy.o.1.hc
        unfold maxLen at hcc
        have hgi : Good (is[i']).m := by
          have h1 := hyy.o.2.1
          rw [Vt.m_mk] at h1
          exact h1.items _ (List.mem_map.2 ⟨_, List.getElem_mem hi', rfl⟩)
        have HYN := hq (And.intro hok (And.intro hgi hit))
        have HL3 : Hq (LL = (pre ++ [(yb, yp, Vt.mk k t ks (some ⟨bb, ff, none⟩) c is)]) ++ nodesM (path.drop (i + 1)) (bb, ff + i' * 4, is[i'])) := hq (by
          rw [HL2.o, hbl, if_pos rfl, hbi]
          simp only [Vt.o, Vt.is, Int.toNat_natCast]
          rw [List.getElem?_eq_getElem hi'])
        have HC3 := hq (fun V (hV : Below w0.heap.size w0 V) => (hyy.o.2.2.grow hV).c3)
        have hiz2 : (i' : Int) < (is.length : Int) := by omega
        clear hok hgi hit HL2 hyy
        have HBL := hq hbl
        generalize belowM (Vt.mk k t ks (some ⟨bb, ff, none⟩) c is).m s = R at *
        obtain ⟨r1, r2⟩ := R
        simp only at hbl hbi
        subst hbl hbi
        clear HBL HPI
        gi_wp2_with (refine ⟨trivial, ?_⟩; gi_at_call 177; refine (callsIn_wide.2 HC.o).mono ?_; rintro e' w4 ⟨rfl, hb4⟩; have HB4 := hq (HB3.o.trans (hb4.mono HB3.o.size)); have c3 : w4.cell? ⟨yb, yp + 3, none⟩ = some (.slice (some ⟨bb, ff, none⟩) is.length c) := HC3.o w4 HB4.o)
        go_roundw
        case rel => exact ⟨i + 1, is[i'], bb, ff + i' * 4, _, hlt, rfl, by simp, HJ.o _ _ _ hJ3 hb4, HB4.o, HL3, HYN⟩
        case measure => simp [intOf]; omega
    · obtain rfl : i = path.length := by omega
      have hiz : ¬ (path.length : Int) < (path.length : Int) := by omega
      have HN : Hq (LL = pre ++ [(yb, yp, y)]) := hq (by rw [hl.o, List.drop_length]; rfl)
      have HPR : Hq (pre ++ [(yb, yp, y)] <+: LL) := hq (by rw [HN.o]; exact List.prefix_refl _)
      obtain ⟨fn, tmps, assign, body, hy, hR⟩ := HY.o pre (yb, yp, y) _ hj HPR.o
      gi_wp2
      refine hR.mono ?_
      rintro e' W3 ⟨rfl, hJ3, hk3⟩
      gi_wp2
      go_end0
      exact ⟨⟨_, rfl⟩, by rw [HN.o]; exact hJ3⟩
end Go.Proofs.YtnlkokgekjlmmaaGreatDoor

namespace Go.Proofs.YtnlkokgekjlmmaaGreatDoor
open Go.RowKit Go.Shelf
attribute [local go_sem] Oper.semAt_some

theorem nodes_len : ∀ (path : List Bs) (y : Nat × Nat × Vt), (nodesM path y).length ≤ path.length + 1
  | [], y => by simp [nodesM]
  | s :: r, y => by
    simp only [nodesM, List.length_cons]
    split
    · split
      · have := nodes_len r (by assumption); rename_i a z _ _; have := nodes_len r (a.block, a.off + (belowM y.2.2.m s).1.toNat * 4, z); omega
      · simp
    · simp
theorem nodes_any (p : Value) (po : Option Addr) (n pc : Nat) (w : World) (hp : ∃ b f, p = .pointer (some ⟨b, f, none⟩)) : Calls Tryz.prog 133 #[p, .slice po n pc] w fun e w' => e = .returned (.func (.func 176) #[] #[.pointer (some ⟨w.heap.size, 0, none⟩), .pointer (some ⟨w.heap.size + 1, 0, none⟩)]) ∧ w' = (w.alloc (.cells #[p] 115)).alloc (.cells #[.slice po n pc] 22) := by
  obtain ⟨b, f, rfl⟩ := hp
  have hmf : ∀ fn first cap w, (Instr.makeFunc fn first cap).run Tryz.prog w = .ok (.func fn first cap) w := fun _ _ _ _ => rfl
  go_enter Tryz.func133, Tryz.ntmps133
  go_wp2_with fail
  go_ret
  exact ⟨rfl, rfl⟩
/-- where a walk along a path stands -/
def lastP (v : Value) (l : List (Nat × Nat × Vt)) : Value := match l.getLast? with
  | some y => .pointer (some ⟨y.1, y.2.1, none⟩)
  | none => v
theorem lastP_snoc (v : Value) (l : List (Nat × Nat × Vt)) (y : Nat × Nat × Vt) : lastP v (l ++ [y]) = .pointer (some ⟨y.1, y.2.1, none⟩) := by
  unfold lastP; rw [List.getLast?_concat]
def LeadPost (LL : List (Nat × Nat × Vt)) (n : Nat) (v : Value) (w : World) (e : Ending) (w' : World) : Prop := e = .returned (.tuple #[lastP v LL, .bool (decide (LL.length = n + 1))]) ∧ Below w.heap.size w w'
set_option maxRecDepth 100000 in
set_option maxHeartbeats 4000000 in
theorem lead_any (x : Vt) (ib ip : Nat) (po : Option Addr) (pc : Nat) (path : List Bs) (w : World) (hx : x.Ok w) (hg : Good x.m) (hat : ItemAt w ib ip x) (hp : (⟨po, pc, path⟩ : SRow).ok w) (hpt : ∀ s ∈ path, s.length ≤ maxLen) :
    Calls Tryz.prog 78 #[.pointer (some ⟨ib, ip, none⟩), .slice po path.length pc] w (LeadPost (nodesM path (ib, ip, x)) path.length (.pointer (some ⟨ib, ip, none⟩)) w) := by
  have HX := hq (And.intro hx (And.intro hg (And.intro hat (And.intro hp hpt))))
  have HN := hq (nodes_len path (ib, ip, x))
  have hpl : path.length ≤ pc := hp.le
  have hpc : pc ≤ maxLen := hp.cp
  unfold maxLen at hpc
  clear hx hg hat hp hpt
  obtain ⟨LL, hLL⟩ : ∃ LL, LL = nodesM path (ib, ip, x) := ⟨_, rfl⟩
  have HLL := hq hLL
  rw [← hLL] at HN ⊢
  clear hLL
  have HP := hq (fun W' (h : Below w.heap.size w W') => (show LeadPost LL path.length (.pointer (some ⟨ib, ip, none⟩)) w (.returned (.tuple #[lastP (.pointer (some ⟨ib, ip, none⟩)) LL, .bool (decide (LL.length = path.length + 1))])) W' from ⟨rfl, h⟩))
  generalize LeadPost LL path.length (.pointer (some ⟨ib, ip, none⟩)) w = PP at *
  refine (callsIn_wide (n := 10)).1 ?_
  refine callsIn_of_wp_marks Tryz.func78 rfl trivial ?_ rfl
  simp only [Tryz.ntmps78, List.size_toArray, List.length_cons, List.length_nil, Nat.reduceAdd, Nat.reduceSub, Array.replicate_succ, Array.replicate_zero, List.push_toArray, List.append_toArray, List.nil_append, List.cons_append]
  gi_wp2_with (refine ⟨trivial, ?_⟩; gi_at_call 133; refine (callsIn_wide.2 (nodes_any _ po path.length pc _ ⟨_, _, rfl⟩)).mono ?_; rintro e w' ⟨rfl, rfl⟩)
  have b1 := (((Boxed.new w 115 (.pointer (some ⟨ib, ip, none⟩))).alloc (.cells #[.int .i64 (-1)] 3)).alloc (.cells #[.pointer (some ⟨ib, ip, none⟩)] 115)).alloc (.cells #[.slice po path.length pc] 22)
  have b2 := ((Boxed.new (w.alloc (.cells #[.pointer (some ⟨ib, ip, none⟩)] 115)) 3 (.int .i64 (-1))).alloc (.cells #[.pointer (some ⟨ib, ip, none⟩)] 115)).alloc (.cells #[.slice po path.length pc] 22)
  have b3 := (Boxed.new ((w.alloc (.cells #[.pointer (some ⟨ib, ip, none⟩)] 115)).alloc (.cells #[.int .i64 (-1)] 3)) 115 (.pointer (some ⟨ib, ip, none⟩))).alloc (.cells #[.slice po path.length pc] 22)
  have b4 := Boxed.new (((w.alloc (.cells #[.pointer (some ⟨ib, ip, none⟩)] 115)).alloc (.cells #[.int .i64 (-1)] 3)).alloc (.cells #[.pointer (some ⟨ib, ip, none⟩)] 115)) 22 (.slice po path.length pc)
  have hB0 := (((below_alloc w (.cells #[.pointer (some ⟨ib, ip, none⟩)] 115)).alloc (by simp) (.cells #[.int .i64 (-1)] 3)).alloc (by simp; omega) (.cells #[.pointer (some ⟨ib, ip, none⟩)] 115)).alloc (by simp; omega) (.cells #[.slice po path.length pc] 22)
  have hsz : ((((w.alloc (.cells #[.pointer (some ⟨ib, ip, none⟩)] 115)).alloc (.cells #[.int .i64 (-1)] 3)).alloc (.cells #[.pointer (some ⟨ib, ip, none⟩)] 115)).alloc (.cells #[.slice po path.length pc] 22)).heap.size = w.heap.size + 4 := by simp
  simp only [World.size_alloc] at b2 b3 b4
  obtain ⟨W0, hW0⟩ : ∃ W0, (((w.alloc (.cells #[.pointer (some ⟨ib, ip, none⟩)] 115)).alloc (.cells #[.int .i64 (-1)] 3)).alloc (.cells #[.pointer (some ⟨ib, ip, none⟩)] 115)).alloc (.cells #[.slice po path.length pc] 22) = W0 := ⟨_, rfl⟩
  rw [hW0] at b1 b2 b3 b4 hB0 hsz ⊢
  clear hW0
  have HGV := hq (nodes_gives (w.heap.size + 1 + 1) (w.heap.size + 1 + 1 + 1) x ib ip po pc path w W0 HX.o.1 HX.o.2.1 HX.o.2.2.1 HX.o.2.2.2.1 HX.o.2.2.2.2 hB0 b3 b4)
  clear HX
  rw [← HLL.o] at HGV
  generalize hn₀ : w.heap.size = n₀ at *
  obtain ⟨pv, hpv⟩ : ∃ pv : Value, pv = .pointer (some ⟨ib, ip, none⟩) := ⟨_, rfl⟩
  refine' range_box rfl (by omega) (gf := 176) (lb := #[.pointer (some ⟨n₀ + 1 + 1, 0, none⟩), .pointer (some ⟨n₀ + 1 + 1 + 1, 0, none⟩)]) rfl trivial (enters_of Tryz.func176 (by kernel_rfl) rfl)
    HGV.o (by omega)
    (fun h k => ⟨h.1.trans k.1, k.2.1.trans h.2.1, k.2.2.trans h.2.2⟩)
    (fun W l o o' hl ho h1 h2 => ⟨belowK_b (w := W0) (by omega) W l o o' hl ho h1 h2, World.putObj_heap_other (by omega), World.putObj_heap_other (by omega)⟩)
    (Below.refl _ _) (fun _ => rfl)
    (fun pre W => (Boxed W n₀ 115 (lastP (.pointer (some ⟨ib, ip, none⟩)) pre) ∧ Boxed W (n₀ + 1) 3 (.int .i64 ((pre.length : Int) - 1))) ∧ Below n₀ w W)
    ?own ?free ⟨⟨b1, by simpa using b2⟩, hB0⟩ _ ?assign ?bod ?done
  case own =>
    exact OwnFrom.and (OwnFrom.and (Own.from (boxed_own _ _ (fun pre => lastP (.pointer (some ⟨ib, ip, none⟩)) pre)) _) (Own.from (boxed_own _ _ (fun pre : List (Nat × Nat × Vt) => Value.int .i64 ((pre.length : Int) - 1))) _)) (ownFrom_below (by omega) (by omega))
  case free =>
    rintro pre A u ⟨⟨h1, h2⟩, h3⟩
    exact ⟨⟨h1.other (by omega) u, h2.other (by omega) u⟩, h3.setCell (p := ⟨n₀ + 1 + 1, 0, none⟩) (by simp only; omega) u⟩
  case assign =>
    intro l y W K hK
    gi_wp2
    exact hK
  case bod =>
    rintro l pre y W hl hlt ⟨⟨h1, h2⟩, hB⟩ hpre
    have hpr := hpre.length_le
    have hWs : n₀ ≤ W.heap.size := by have := hB.size; omega
    rw [List.length_append, List.length_singleton] at hpr
    have hN := HN.o
    have hz : -9223372036854775808 ≤ (pre.length : Int) - 1 + 1 ∧ (pre.length : Int) - 1 + 1 ≤ 9223372036854775807 := by omega
    have c1 := h1.cell
    have f1 := h1.frozen
    have g2 := h2.other (B' := n₀) (by omega) (.pointer (some ⟨y.1, y.2.1, none⟩))
    have c2 := g2.cell
    have f2 := g2.frozen
    gi_wp2
    have hu : (Value.int .i64 (((pre ++ [y]).length : Int) - 1)) = .int .i64 (pre.length : Int) := int_eq (by rw [List.length_append, List.length_singleton]; omega)
    refine ⟨(KeepsFrom.of_grownBy (grownBy_setCell' W n₀ _) (fun j e => by cases e; omega)).trans (KeepsFrom.of_grownBy (grownBy_setCell' _ (n₀ + 1) _) (fun j e => by cases e; omega)), ⟨((Below.refl n₀ W).setCell (p := ⟨n₀, 0, none⟩) (by simp only; omega) _).setCell (p := ⟨n₀ + 1, 0, none⟩) (by simp only; omega) _, ?_, ?_⟩, ⟨⟨?_, ?_⟩, (hB.setCell (p := ⟨n₀, 0, none⟩) (by simp only; omega) _).setCell (p := ⟨n₀ + 1, 0, none⟩) (by simp only; omega) _⟩⟩
    · rw [heap_setCell_other _ ⟨n₀ + 1, 0, none⟩ _ _ (by simp only; omega), heap_setCell_other _ ⟨n₀, 0, none⟩ _ _ (by simp only; omega)]
    · rw [heap_setCell_other _ ⟨n₀ + 1, 0, none⟩ _ _ (by simp only; omega), heap_setCell_other _ ⟨n₀, 0, none⟩ _ _ (by simp only; omega)]
    · rw [lastP_snoc]
      exact (h1.set _).other (by omega) _
    · rw [hu]
      exact g2.set _
  case done =>
    rintro D W hD ⟨⟨h1, h2⟩, hB⟩ hK
    have c1 := h1.cell
    have c2 := h2.cell
    gi_wp2
    gi_region
    all_goals gi_wp2
    have hbv : (((LL.length : Int) - 1) == (path.length : Int)) = decide (LL.length = path.length + 1) := by
      rw [Bool.eq_iff_iff, beq_iff_eq, decide_eq_true_eq]
      omega
    refine ⟨by simp, .inl ⟨_, _, rfl, run_takeDeferred hK, ?_⟩⟩
    refine ⟨.tuple #[lastP (.pointer (some ⟨ib, ip, none⟩)) LL, .bool (decide (LL.length = path.length + 1))], ?_, ?_⟩
    · rw [← hbv]
      simp [results, Tryz.results78, go_sem]
    · refine HP.o _ ?_
      exact (show Below n₀ w W.drew from ⟨hB.os, hB.tape, hB.output, hB.size, hB.block⟩).trans (belowK_b (w := w) (by omega) W.drew D _ _ (by omega) hK rfl rfl)
end Go.Proofs.YtnlkokgekjlmmaaGreatDoor

namespace Go.Proofs.YtnlkokgekjlmmaaGreatDoor
open Go.RowKit

/-- the node to which a path leads -/
def pgetM : List Bs → Vl → Option Vl
  | [], v => some v
  | s :: r, v => if (belowM v s).2 = true then (match v.is[(belowM v s).1.toNat]? with
    | some z => pgetM r z
    | none => none) else none
theorem size_item {l : List Vl} {x : Vl} (h : x ∈ l) : x.size ≤ Vl.sizes l := by
  induction l with
  | nil => cases h
  | cons a l ih =>
    simp only [Vl.sizes]
    rcases List.mem_cons.1 h with rfl | h
    · omega
    · have := ih h; omega
theorem depth_item {k : Int} {t : Bs} {ks : List Bs} {is : List Vl} {x : Vl} (h : x ∈ is) : x.depth ≤ (Vl.mk k t ks is).depth := by
  have := Vl.depths_le x h
  simp only [Vl.depth]
  omega
theorem nodes_find (w0 : World) : ∀ (path : List Bs) (y : Vt) (b p : Nat), y.Ok w0 → openM y.m = true → y.m.All Lim → ItemAt w0 b p y →
    (∃ z : Nat × Nat × Vt, (nodesM path (b, p, y)).getLast? = some z ∧ (nodesM path (b, p, y)).length = path.length + 1 ∧ pgetM path y.m = some z.2.2.m ∧ z.2.2.Ok w0 ∧ openM z.2.2.m = true ∧ z.2.2.m.All Lim ∧ ItemAt w0 z.1 z.2.1 z.2.2) ∨
      ((nodesM path (b, p, y)).length ≠ path.length + 1 ∧ pgetM path y.m = none)
  | [], y, b, p, hok, ho, hl, hat => .inl ⟨(b, p, y), rfl, rfl, rfl, hok, ho, hl, hat⟩
  | s :: r, y, b, p, hok, ho, hl, hat => by
    cases hb : (belowM y.m s).2 with
    | false =>
      refine .inr ⟨?_, ?_⟩
      · simp only [nodesM, hb]; simp
      · simp only [pgetM, hb]; simp
    | true =>
      obtain ⟨k, t, ks, o, c, is⟩ := y
      obtain ⟨i, hi, hbi⟩ := below_in (open_good ho).1 hb
      obtain ⟨bb, ff, rfl, hit⟩ := hok.at_ i hi
      have hok2 := hok.item i hi
      have hmem : (is[i]).m ∈ is.map Vt.m := List.mem_map.2 ⟨_, List.getElem_mem hi, rfl⟩
      have ho2 : openM (is[i]).m = true := by
        obtain ⟨h1, h2, h3⟩ := open_good ho
        rw [Vt.m_mk] at h1 h2 h3
        unfold openM
        simp only [Bool.and_eq_true, decide_eq_true_eq]
        refine ⟨?_, ?_, h1.items _ hmem⟩
        · have := size_item hmem; simp only [Vl.size] at h2; omega
        · have := depth_item (k := k) (t := t) (ks := ks.l) hmem; omega
      have hl2 : (is[i]).m.All Lim := by
        rw [Vt.m_mk] at hl
        exact hl.items _ hmem
      have e1 : nodesM (s :: r) (b, p, Vt.mk k t ks (some ⟨bb, ff, none⟩) c is) = (b, p, Vt.mk k t ks (some ⟨bb, ff, none⟩) c is) :: nodesM r (bb, ff + i * 4, is[i]) := by
        simp only [nodesM, hb, if_pos, hbi, Vt.o, Vt.is, Int.toNat_natCast]
        rw [List.getElem?_eq_getElem hi]
      have e2 : pgetM (s :: r) (Vt.mk k t ks (some ⟨bb, ff, none⟩) c is).m = pgetM r (is[i]).m := by
        simp only [pgetM, hb, if_pos, hbi, Int.toNat_natCast]
        have e3 : (Vt.mk k t ks (some ⟨bb, ff, none⟩) c is).m.is[i]? = some (is[i]).m := by rw [Vt.m_mk]; simp [Vl.is, hi]
        rw [e3]
      rw [e1, e2]
      rcases nodes_find w0 r is[i] bb (ff + i * 4) hok2 ho2 hl2 hit with ⟨z, h1, h2, h3⟩ | ⟨h1, h2⟩
      · refine .inl ⟨z, ?_, by simp [h2], h3⟩
        rw [List.getLast?_cons, h1]; rfl
      · exact .inr ⟨by simpa using h1, h2⟩
def pfindM (v : Vl) (path : List Bs) : Option Vl := if pgoodB path = true ∧ openM v = true then pgetM path v else none
set_option maxHeartbeats 8000000 in
set_option maxRecDepth 1000000 in
theorem pFind_any (x : Vt) (po : Option Addr) (pc : Nat) (path : List Bs) (w : World) (hE : Env w) (hx : Fine x w) (hp : (⟨po, pc, path⟩ : SRow).ok w) (hpt : Room path) : Calls Tryz.prog 40 #[x.v, .slice po path.length pc] w (GetPost (pfindM x.m path) w) := by
  have HRI := hq (fun V (hV : Below w.heap.size w V) => pright_any ⟨po, pc, path⟩ V (hE.grow hV).tab (hp.grow hV) hpt)
  have HOA := hq (fun V (hV : Below w.heap.size w V) => open_any x V (hE.grow hV) (hx.ok.grow hV) hx.lim (by have := hx.sz; omega))
  have HLD := hq (fun V (hV : Below w.heap.size w V) (g : Nat) (hi : ItemAt V g 0 x) (ho : openM x.m = true) => lead_any x g 0 po pc path V (hx.ok.grow hV) (open_good ho).1 hi (hp.grow hV) hpt)
  have HND := hq (fun V (hV : Below w.heap.size w V) (g : Nat) (hi : ItemAt V g 0 x) (ho : openM x.m = true) => nodes_find V path x g 0 (hx.ok.grow hV) ho hx.lim hi)
  have HEW := hq (fun V (hV : Below w.heap.size w V) => hE.grow hV)
  have HFN : Hq (¬ (pgoodB path = true ∧ openM x.m = true) → pfindM x.m path = none) := hq (fun h => by unfold pfindM; rw [if_neg h])
  have HFS : Hq (pgoodB path = true → openM x.m = true → pfindM x.m path = pgetM path x.m) := hq (fun h1 h2 => by unfold pfindM; rw [if_pos ⟨h1, h2⟩])
  have HIA : Hq (∀ V g, Whole V g 25 #[.int .i64 x.k, .string (st x.t), x.ks.v, x.row] → ItemAt V g 0 x) := hq (fun V g h => by obtain ⟨a, b, c, d⟩ := four_cells h; exact ⟨a, b, c, d⟩)
  have HP : Hq (∀ (r : Option Vl) (y : Vt) W', pfindM x.m path = r → y.Own 25 9 w.heap.size (fun _ => True) W' → y.m = r.getD zeroL → Below w.heap.size w W' → GetPost (pfindM x.m path) w (.returned (.tuple #[y.v, .bool r.isSome])) W') := hq (fun r y W' h h1 h2 h3 => by rw [h]; exact ⟨y, rfl, h1, h2, h3⟩)
  generalize GetPost (pfindM x.m path) w = PP at *
  generalize pfindM x.m path = FM at *
  have hpl : path.length ≤ pc := hp.le
  have hpc : pc ≤ maxLen := hp.cp
  unfold maxLen at hpc
  clear hx hE hp hpt
  obtain ⟨k, t, ⟨ko, kc, kl⟩, o, c, is⟩ := x
  rw [Vt.v_mk'] at *
  simp only [Vt.k, Vt.t, Vt.ks, Vt.row, SRow.v, Vt.o, Vt.is, Vt.c] at HIA
  simp only [SRow.v] at HRI
  generalize (Vt.mk k t ⟨ko, kc, kl⟩ o c is) = x at *
  obtain ⟨hb0, hw0, hw1⟩ := two_boxes w 25 #[.int .i64 k, .string (st t), .slice ko kl.length kc, .slice o is.length c] #[.int .i64 0, .string ⟨#[]⟩, .slice none 0 0, .slice none 0 0]
  have HB0 := hq hb0
  have HW0 := hq hw0
  have HW1 := hq hw1
  have HG1 := hq hw1.lt
  have HZER : Hq (∀ V, Below w.heap.size w V → FM = none → PP (.returned (.tuple #[zeroT.v, .bool false])) ((((V.setCell ⟨w.heap.size + 1, 0, none⟩ (.int .i64 0)).setCell ⟨w.heap.size + 1, 1, none⟩ (.string ⟨#[]⟩)).setCell ⟨w.heap.size + 1, 2, none⟩ (.slice none 0 0)).setCell ⟨w.heap.size + 1, 3, none⟩ (.slice none 0 0))) := hq (fun V h1 h2 => HP.o none zeroT _ h2 (zeroT_own _ _) zeroT_m (below_put4 h1 (by omega) _ _ _ _))
  clear hb0 hw0 hw1
  go_enter Tryz.func40, Tryz.ntmps40
  go_upto_region 1 with fail
  generalize ((w.alloc (.cells #[.int .i64 k, .string (st t), .slice ko kl.length kc, .slice o is.length c] 25)).alloc (.cells #[.int .i64 0, .string ⟨#[]⟩, .slice none 0 0, .slice none 0 0] 25)) = V0 at *
  have HGW : Hq (w.heap.size ≤ w.heap.size + 1) := hq (by omega)
  have HRC := hq (HRI.o V0 HB0.o)
  clear HRI
  go_wp2_with fail
  refine HRC.o.mono ?_
  rintro e w2 ⟨rfl, hb2⟩
  have HB2 := hq (below_trans HB0.o hb2)
  have HW02 := hq (HW0.o.grow hb2)
  have HW12 := hq (HW1.o.grow hb2)
  clear HRC hb2
  cases hpg : pgoodB path with
  | false =>
    have HGZ := hq (HFN.o (fun h => by rw [hpg] at h; cases h.1))
    obtain ⟨r0, r1, r2, r3⟩ := four_cells HW12.o
    have f0 := HW12.o.free 0
    have f1 := HW12.o.free 1
    have f2 := HW12.o.free 2
    have f3 := HW12.o.free 3
    have HV := hq (HZER.o w2 HB2.o HGZ.o)
    clear HFN HFS HIA HP HOA HLD HND HZER HGZ
    go_wp2_with fail
    refine bodyPost_ret (v := .tuple #[zeroT.v, .bool false]) ?_ rfl HV.o
    simp [results, Tryz.results40, go_sem, r0, r1, r2, r3, zeroT, Vt.v_mk']
  | true =>
    obtain ⟨c0, c1, c2, c3⟩ := four_cells HW02.o
    have HOC := hq (HOA.o w2 HB2.o)
    clear HOA
    go_wp2_with fail
    refine HOC.o.mono ?_
    rintro e w3 ⟨rfl, hb3⟩
    have HB3 := hq (below_trans HB2.o hb3)
    have HW03 := hq (HW02.o.grow hb3)
    have HW13 := hq (HW12.o.grow hb3)
    clear HOC hb3 c0 c1 c2 c3
    by_cases ho : openM x.m = true
    case neg =>
      have hof : openM x.m = false := by simpa using ho
      have HGZ := hq (HFN.o (fun h => ho h.2))
      obtain ⟨r0, r1, r2, r3⟩ := four_cells HW13.o
      have f0 := HW13.o.free 0
      have f1 := HW13.o.free 1
      have f2 := HW13.o.free 2
      have f3 := HW13.o.free 3
      have HV := hq (HZER.o w3 HB3.o HGZ.o)
      rw [hof]
      clear HFN HFS HIA HP HLD HND HZER HGZ ho hof
      go_wp2_with fail
      refine bodyPost_ret (v := .tuple #[zeroT.v, .bool false]) ?_ rfl HV.o
      simp [results, Tryz.results40, go_sem, r0, r1, r2, r3, zeroT, Vt.v_mk']
    case pos =>
      have HFE := hq (HFS.o hpg ho)
      have HI3 := hq (HIA.o w3 w.heap.size HW03.o)
      have HLC := hq (HLD.o w3 HB3.o w.heap.size HI3.o ho)
      have hnd := HND.o w3 HB3.o w.heap.size HI3.o ho
      rw [ho]
      clear HFN HFS HIA HLD HND ho
      go_wp2_with fail
      refine HLC.o.mono ?_
      rintro e w4 ⟨rfl, hb4⟩
      have HB4 := hq (below_trans HB3.o hb4)
      have HW14 := hq (HW13.o.grow hb4)
      have HS4 := hq HB4.o.size
      obtain ⟨r0, r1, r2, r3⟩ := four_cells HW14.o
      have f0 := HW14.o.free 0
      have f1 := HW14.o.free 1
      have f2 := HW14.o.free 2
      have f3 := HW14.o.free 3
      clear HLC
      rcases hnd with ⟨⟨zb, zp, z⟩, hl1, hl2, hgp, hzok, hzo, hzl, hzat⟩ | ⟨hl2, hgp⟩
      · have hlp : lastP (.pointer (some ⟨w.heap.size, 0, none⟩)) (nodesM path (w.heap.size, 0, x)) = .pointer (some ⟨zb, zp, none⟩) := by unfold lastP; rw [hl1]
        have hld : decide ((nodesM path (w.heap.size, 0, x)).length = path.length + 1) = true := decide_eq_true hl2
        rw [hlp, hld]
        simp only at hzo hgp
        have HCP := hq (vCopy_any z w4 (HEW.o w4 HB4.o) ⟨hzok.grow hb4, hzl, by have := (open_good hzo).2.1; omega⟩)
        rw [if_pos hzo] at HCP
        have HGP : Hq (FM = some z.m) := hq (by rw [HFE.o, hgp])
        have hza := hzat.grow hb4
        obtain ⟨i0, i1, i2, i3⟩ := hza
        obtain ⟨zk, zt, ⟨zko, zkc, zkl⟩, zo, zc, zis⟩ := z
        simp only [Vt.k, Vt.t, Vt.ks, Vt.row, SRow.v, Vt.o, Vt.is, Vt.c] at i0 i1 i2 i3
        rw [Vt.v_mk'] at HCP
        clear hl1 hl2 hlp hld hzok hzo hzl hzat hgp hb4 HFE HEW HZER r0 r1 r2 r3
        generalize (Vt.mk zk zt ⟨zko, zkc, zkl⟩ zo zc zis).m = ZM at *
        go_wp2_with fail
        refine HCP.o.mono ?_
        rintro e w5 ⟨y, rfl, hyo, hym, hb5⟩
        obtain ⟨yk, yt, ⟨yko, ykc, ykl⟩, yo, yc, yis⟩ := y
        have HR5 := hq (HW14.o.grow hb5)
        obtain ⟨r0, r1, r2, r3⟩ := four_cells HR5.o
        have f0 := HR5.o.free 0
        have f1 := HR5.o.free 1
        have f2 := HR5.o.free 2
        have f3 := HR5.o.free 3
        have HV := hq (fun a b c d => HP.o _ _ ((((w5.setCell ⟨w.heap.size + 1, 0, none⟩ a).setCell ⟨w.heap.size + 1, 1, none⟩ b).setCell ⟨w.heap.size + 1, 2, none⟩ c).setCell ⟨w.heap.size + 1, 3, none⟩ d) HGP.o ((own_put4 hyo (show w.heap.size + 1 < w4.heap.size from HW14.o.lt) a b c d).base (by have := HS4.o; omega)) hym (below_put4 (below_trans HB4.o hb5) HGW.o a b c d))
        clear hyo hym hb5 HCP HP i0 i1 i2 i3
        rw [Vt.v_mk']
        go_wp2_with fail
        refine bodyPost_ret (v := .tuple #[(Vt.mk yk yt ⟨yko, ykc, ykl⟩ yo yc yis).v, .bool true]) ?_ rfl (HV.o _ _ _ _)
        simp [results, Tryz.results40, go_sem, r0, r1, r2, r3, Vt.v_mk']
      · have hld : decide ((nodesM path (w.heap.size, 0, x)).length = path.length + 1) = false := decide_eq_false hl2
        rw [hld]
        obtain ⟨pv, hpv⟩ : ∃ pv, pv = lastP (.pointer (some ⟨w.heap.size, 0, none⟩)) (nodesM path (w.heap.size, 0, x)) := ⟨_, rfl⟩
        rw [← hpv]
        have HV := hq (HZER.o w4 HB4.o (by rw [HFE.o, hgp]))
        clear hl2 hld hgp hb4 HFE HEW HZER hpv HP
        go_wp2_with fail
        refine bodyPost_ret (v := .tuple #[zeroT.v, .bool false]) ?_ rfl HV.o
        simp [results, Tryz.results40, go_sem, r0, r1, r2, r3, zeroT, Vt.v_mk']
end Go.Proofs.YtnlkokgekjlmmaaGreatDoor
