/-
  WALKS: number.digits, the parts of a literal.
  WALKS: number.split: the parts of a literal.
  WALKS: (literal).number: what a literal is.
  WALKS: number.Right.
  WALKS: number.Parse.
-/
import Derived.Test.YtmomildkopainaaDoorChecked
import Derived.Test.YtmomildkopainaaDoorShelf
import Derived.Test.YtmomildkopainaaDoorMem
import Derived.Test.YtmomildkopainaaDoorNumMath
import Derived.Deep.DeepCutAuto
import Derived.Deep.RegionWith

namespace Go.Proofs.YtmomildkopainaaDoor
open Go.RowKit

theorem isDig_byt (s : ByteArray) (j : Nat) (h : j < s.data.toList.length) : isDig s.data.toList[j] = (decide (48 ≤ byt s j) && decide (byt s j ≤ 57)) := by
  unfold isDig
  rw [byt_eq s j h]
  rfl

set_option maxHeartbeats 400000 in
set_option maxRecDepth 1000000 in
theorem digits_any (s : ByteArray) (w : World) (hs : s.size ≤ maxLen) :
    Calls Tryd.prog 143 #[.string s] w fun e w' => e = .returned (.int .i64 (nd s.data.toList)) ∧ Below w.heap.size w w' := by
  unfold maxLen at hs
  generalize hV : nd s.data.toList = V
  have HV := hq hV
  clear hV
  go_enter Tryd.func143, Tryd.ntmps143
  go_wp2
  go_loopw [] (fun wr => ∃ (pos : Nat), pos ≤ s.size ∧ wr.heap[w.heap.size]? = some (.stringIter s pos) ∧ Below w.heap.size w wr ∧ Hq (∀ j, j < pos → 48 ≤ byt s j ∧ byt s j ≤ 57)) (fun wr => s.size - wr.iterPos w.heap.size)
  case atStart => exact ⟨0, by omega, World.iter_heap w s 0, (Below.refl _ _).alloc (Nat.le_refl _) _, hq (fun j h => by omega)⟩
  case round =>
    obtain ⟨pos, hps, hit, hb, hd⟩ := hrel
    have hlt : w.heap.size < wr.heap.size := (Array.getElem?_eq_some_iff.1 hit).1
    by_cases hp : pos < s.size
    · have hnx : ∀ ty, (Instr.next (.pointer (some ⟨w.heap.size, 0, none⟩)) true ty).run Tryd.prog wr = _ := fun ty => Lib.run_next_any_at wr w.heap.size s pos ty hit hp
      have hwp := wd_pos s pos
      have hdl := decode_le s pos
      have hit2 := Lib.iterAt_heap wr w.heap.size s pos (pos + (Utf8.decode s pos).2) hit
      have hb2 := Lib.below_iterAt hb (k := w.heap.size) (Nat.le_refl _) s (pos + (Utf8.decode s pos).2)
      have hlow : Hq (byt s pos < 128 → (Utf8.decode s pos) = (byt s pos, 1)) := hq (dec_low s pos)
      have hhigh : Hq (128 ≤ byt s pos → 128 ≤ (Utf8.decode s pos).1) := hq (dec_high s pos)
      have hend : Hq (¬ (48 ≤ byt s pos ∧ byt s pos ≤ 57) → pos = V) := hq (fun hn => by
        rw [← HV.o]
        refine (nd_is _ pos (fun j hj hjp => ?_) (fun hk => ?_) hps).symm
        · rw [isDig_byt]; have := hd.o j hjp; simp; omega
        · rw [isDig_byt]; simp; omega)
      by_cases hdig : 48 ≤ byt s pos ∧ byt s pos ≤ 57
      · have e1 := hlow.o (by omega)
        have HW : Hq ((Utf8.decode s pos).2 = 1) := hq (by rw [e1])
        have hC1 : (48 : Int) ≤ ((Utf8.decode s pos).1 : Int) := by rw [e1]; simp only; omega
        have hC2 : ((Utf8.decode s pos).1 : Int) ≤ 57 := by rw [e1]; simp only; omega
        clear e1
        go_wp2
        go_roundw
        case rel => exact ⟨pos + (Utf8.decode s pos).2, by rw [HW.o]; omega, hit2, hb2, hq (fun j hj => by
          rw [HW.o] at hj
          by_cases hjp : j = pos
          · subst hjp; exact hdig
          · exact hd.o j (by omega))⟩
        case measure => simp only [World.iterPos, hit2, hit]; rw [HW.o]; omega
      · have hV : pos = V := hend.o hdig
        have hC : ((Utf8.decode s pos).1 : Int) < 48 ∨ (57 : Int) < ((Utf8.decode s pos).1 : Int) := by
          by_cases h128 : byt s pos < 128
          · rw [hlow.o h128]; simp only; omega
          · have := hhigh.o (by omega); omega
        have HVV := hq hV
        clear hV hdig
        rcases hC with hC | hC
        · go_wp2
          go_ret
          exact ⟨ret_one (int_eq (by rw [HVV.o])), hb2⟩
        · by_cases hC' : ((Utf8.decode s pos).1 : Int) < 48
          · omega
          · go_wp2
            go_ret
            exact ⟨ret_one (int_eq (by rw [HVV.o])), hb2⟩
    · obtain rfl : pos = s.size := by omega
      have hnx : ∀ ty, (Instr.next (.pointer (some ⟨w.heap.size, 0, none⟩)) true ty).run Tryd.prog wr = _ := fun ty => Lib.run_next_end_at wr w.heap.size s s.size ty hit hp
      have hV : s.size = V := by
        rw [← HV.o]
        refine (nd_is _ s.size (fun j hj hjp => ?_) (fun hk => absurd hk (Nat.lt_irrefl _)) (Nat.le_refl _)).symm
        rw [isDig_byt]; have := hd.o j hjp; simp; omega
      have HVV := hq hV
      clear hV
      go_wp2
      go_ret
      exact ⟨ret_one (int_eq (by rw [HVV.o])), hb⟩
end Go.Proofs.YtmomildkopainaaDoor

namespace Go.Proofs.YtmomildkopainaaDoor
open Go.RowKit

/-- the parts of a literal -/
structure Parts where
  neg : Bool
  whole : Bs
  frac : Bs
  down : Bool
  power : Bs
def Parts.val (l : Parts) : Value := .agg #[.bool l.neg, .string (st l.whole), .string (st l.frac), .bool l.down, .string (st l.power)]

/-- the exponent's digits, behind e -/
def splitFin (p : Parts) (d : Bool) (r : Bs) : Option Parts := if r ≠ [] ∧ r.all isDig then some { p with down := d, power := r } else none
def splitExp (p : Parts) (l : Bs) : Option Parts :=
  if l.head? == some 45 then splitFin p true l.tail else splitFin p false (if l.head? == some 43 then l.tail else l)
/-- behind the fraction -/
def splitTail (p : Parts) (l : Bs) : Option Parts :=
  match l with
  | [] => some p
  | c :: r => if c = 101 ∨ c = 69 then splitExp p r else none
/-- behind the whole digits -/
def splitFrac (p : Parts) (l : Bs) : Option Parts :=
  match l with
  | 46 :: r => if r.takeWhile isDig = [] then none else splitTail { p with frac := r.takeWhile isDig } (r.dropWhile isDig)
  | l => splitTail p l
def splitWhole (neg : Bool) (l : Bs) : Option Parts :=
  let w := l.takeWhile isDig
  if w = [] ∨ (1 < w.length ∧ w.head? = some 48) then none else splitFrac ⟨neg, w, [], false, []⟩ (l.dropWhile isDig)
def splitM (l : Bs) : Option Parts := if l.head? == some 45 then splitWhole true l.tail else splitWhole false l

theorem prefix_one (l : Bs) (c : UInt8) : Lib.hasPrefix l [c] = (l.head? == some c) := by
  cases l with
  | nil => rfl
  | cons a l => simp [Lib.hasPrefix, List.isPrefixOf]; exact Bool.beq_comm
theorem trim_one (l : Bs) (c : UInt8) : Lib.trimPrefix l [c] = if l.head? == some c then l.tail else l := by
  unfold Lib.trimPrefix
  rw [prefix_one]
  cases l with
  | nil => rfl
  | cons a l => simp

theorem nd_all (l : Bs) (h : l.all isDig = true) : nd l = l.length := by
  unfold nd
  have h2 : l.takeWhile isDig = l := by
    induction l with
    | nil => rfl
    | cons c l ih =>
      simp only [List.all_cons, Bool.and_eq_true] at h
      rw [List.takeWhile_cons, if_pos h.1, ih h.2]
  rw [h2]
theorem nd_not (l : Bs) (h : l.all isDig = false) : nd l ≠ l.length := by
  intro he
  have h2 : l.takeWhile isDig = l := (List.takeWhile_prefix isDig).eq_of_length he
  have h3 : ∀ m : Bs, m.takeWhile isDig = m → m.all isDig = true := by
    intro m
    induction m with
    | nil => intro _; rfl
    | cons c m ih =>
      intro hm
      rw [List.takeWhile_cons] at hm
      split at hm
      · rename_i hc
        simp only [List.cons.injEq, true_and] at hm
        rw [List.all_cons, hc, ih hm]; rfl
      · cases hm
  rw [h3 l h2] at h; cases h
def SplitPost (R : Option Parts) (w : World) (e : Ending) (w' : World) : Prop :=
  (∃ v, e = .returned v ∧ ((∃ p, R = some p ∧ v = .tuple #[p.val, .bool true]) ∨ (R = none ∧ ∃ p : Parts, v = .tuple #[p.val, .bool false]))) ∧ Below w.heap.size w w'
theorem SplitPost.no {R : Option Parts} {w w' : World} {x : Value} (p : Parts) (h : R = none) (hx : x = p.val) (hb : Below w.heap.size w w') : SplitPost R w (.returned (.tuple #[x, .bool false])) w' := ⟨⟨_, rfl, .inr ⟨h, p, by rw [hx]⟩⟩, hb⟩
theorem SplitPost.yes {R : Option Parts} {w w' : World} {p : Parts} {x : Value} (h : R = some p) (hx : x = p.val) (hb : Below w.heap.size w w') : SplitPost R w (.returned (.tuple #[x, .bool true])) w' := ⟨⟨_, rfl, .inl ⟨p, h, by rw [hx]⟩⟩, hb⟩
theorem five_cells {w : World} {g : Nat} {t : TypeId} {a b c d e : Value} (h : Whole w g t #[a, b, c, d, e]) :
    w.cell? ⟨g, 0, none⟩ = some a ∧ w.cell? ⟨g, 1, none⟩ = some b ∧ w.cell? ⟨g, 2, none⟩ = some c ∧ w.cell? ⟨g, 3, none⟩ = some d ∧ w.cell? ⟨g, 4, none⟩ = some e :=
  ⟨h.at_ 0, h.at_ 1, h.at_ 2, h.at_ 3, h.at_ 4⟩

theorem set_five {B : Nat} {w W : World} (h : Below B w W) {g : Nat} (hg : B ≤ g) (a b c d e : Value) :
    Below B w (((((W.setCell ⟨g, 0, none⟩ a).setCell ⟨g, 1, none⟩ b).setCell ⟨g, 2, none⟩ c).setCell ⟨g, 3, none⟩ d).setCell ⟨g, 4, none⟩ e) :=
  ((((h.setCell (p := ⟨g, 0, none⟩) hg a).setCell (p := ⟨g, 1, none⟩) hg b).setCell (p := ⟨g, 2, none⟩) hg c).setCell (p := ⟨g, 3, none⟩) hg d).setCell (p := ⟨g, 4, none⟩) hg e
theorem cut_left (l : Bs) (k : Nat) : (st l).extract 0 k = st (l.take k) := by rw [extract_st, st_list]; simp
theorem cut_right (l : Bs) (k : Nat) : (st l).extract k l.length = st (l.drop k) := by
  rw [extract_st, st_list]
  congr 2
  rw [List.take_of_length_le]
  rw [List.length_drop]; omega
theorem splitTail_cons (p : Parts) (c : UInt8) (r : Bs) : splitTail p (c :: r) = if c.toNat = 101 ∨ c.toNat = 69 then splitExp p r else none := by
  have h1 : (c = 101 ∨ c = 69) ↔ (c.toNat = 101 ∨ c.toNat = 69) := by
    constructor
    · rintro (rfl | rfl) <;> simp
    · rintro (h | h)
      · exact .inl (UInt8.toNat_inj.1 h)
      · exact .inr (UInt8.toNat_inj.1 h)
  show (if c = 101 ∨ c = 69 then splitExp p r else none) = _
  by_cases h : c = 101 ∨ c = 69
  · rw [if_pos h, if_pos (h1.1 h)]
  · rw [if_neg h, if_neg (fun x => h (h1.2 x))]
theorem five_free {w : World} {g : Nat} {t : TypeId} {cs : Array Value} (h : Whole w g t cs) :
    w.frozen? ⟨g, 0, none⟩ = false ∧ w.frozen? ⟨g, 1, none⟩ = false ∧ w.frozen? ⟨g, 2, none⟩ = false ∧ w.frozen? ⟨g, 3, none⟩ = false ∧ w.frozen? ⟨g, 4, none⟩ = false :=
  ⟨h.free 0, h.free 1, h.free 2, h.free 3, h.free 4⟩

set_option maxHeartbeats 4000000 in
set_option maxRecDepth 1000000 in
theorem split_any (s : ByteArray) (w : World) (hs : s.size ≤ maxLen) :
    Calls Tryd.prog 129 #[.string s] w (SplitPost (splitM s.data.toList) w) := by
  have HS := hq hs
  generalize hR0 : splitM s.data.toList = R
  have HR0 := hq hR0
  clear hR0
  unfold maxLen at hs
  go_enter Tryd.func129, Tryd.ntmps129
  go_wp2_with fail
  refine (Tryd.strings_CutPrefix s ⟨#[45]⟩ _).mono ?_
  rintro e w1 ⟨rfl, hw1⟩
  obtain rfl := hw1.symm
  rw [show (⟨#[45]⟩ : ByteArray).data.toList = [45] from rfl, prefix_one, trim_one]
  have hM : splitM s.data.toList = splitWhole (s.data.toList.head? == some 45) (if s.data.toList.head? == some 45 then s.data.toList.tail else s.data.toList) := by
    unfold splitM; split <;> rename_i h <;> simp [h]
  have hlen : (if s.data.toList.head? == some 45 then s.data.toList.tail else s.data.toList).length ≤ s.size := by
    split
    · rw [List.length_tail]; show _ - 1 ≤ s.data.toList.length; omega
    · exact Nat.le_refl _
  generalize (if s.data.toList.head? == some 45 then s.data.toList.tail else s.data.toList) = l at *
  generalize (s.data.toList.head? == some 45) = neg at *
  have HM := hq (HR0.o.symm.trans hM)
  clear hM HR0
  go_upto_region 3 with fail
  have hW := Whole.made (w.alloc (.cells #[.bool false, .string (st []), .string (st []), .bool false, .string (st [])] 169)) 169 #[.bool neg, .string (st []), .string (st []), .bool false, .string (st [])]
  have hW0 := (Whole.made w 169 #[.bool false, .string (st []), .string (st []), .bool false, .string (st [])]).alloc (.cells #[.bool neg, .string (st []), .string (st []), .bool false, .string (st [])] 169)
  rw [World.size_alloc] at hW
  have hbel : Below w.heap.size w ((w.alloc (.cells #[.bool false, .string (st []), .string (st []), .bool false, .string (st [])] 169)).alloc (.cells #[.bool neg, .string (st []), .string (st []), .bool false, .string (st [])] 169)) := (below_alloc w _).alloc (by rw [World.size_alloc]; omega) _
  generalize ((w.alloc (.cells #[.bool false, .string (st []), .string (st []), .bool false, .string (st [])] 169)).alloc (.cells #[.bool neg, .string (st []), .string (st []), .bool false, .string (st [])] 169)) = W at *
  go_cut [0] (fun s0 wx => s0 = .string (st (l.drop (nd l))) ∧ Below w.heap.size w wx ∧ Whole wx w.heap.size 169 #[.bool false, .string (st []), .string (st []), .bool false, .string (st [])] ∧ Whole wx (w.heap.size + 1) 169 #[.bool neg, .string (st (l.take (nd l))), .string (st []), .bool false, .string (st [])])
  case first =>
    have hz : (st l).size ≤ maxLen := by rw [st_size]; unfold maxLen; omega
    have HZ := hq hz
    have hndl := nd_le l
    clear hz
    have hsz := hW.lt
    obtain ⟨c0, c1, c2, c3, c4⟩ := five_cells hW
    have f1 := hW.free 1
    have hbel2 := hbel.drew
    go_region_with (go_at_call 143; refine (digits_any _ _ HZ.o).mono ?_; rw [st_list]; rintro e w1 ⟨rfl, hb1⟩; have hW1 : Whole w1 (w.heap.size + 1) 169 #[.bool neg, .string (st []), .string (st []), .bool false, .string (st [])] := Whole.grow (by assumption) hb1; obtain ⟨_, q1, _, _, _⟩ := five_cells hW1; have q2 := hW1.free 1; have hbx : Below w.heap.size w w1 := below_trans (by assumption) hb1; have hR1 : Whole w1 w.heap.size 169 #[.bool false, .string (st []), .string (st []), .bool false, .string (st [])] := Whole.grow (by assumption) hb1)
    all_goals (go_wp2_with fail; go_meet)
    all_goals (rw [cut_left, cut_right]; exact ⟨rfl, hbx.setCell (by simp) _, hR1.far (by simp) _, hW1.put 1 _⟩)
  case rest =>
    obtain ⟨rfl, hbc, hc0, hc1⟩ := hcut
    obtain ⟨k0, k1, k2, k3, k4⟩ := five_cells hc1
    obtain ⟨r0, r1, r2, r3, r4⟩ := five_cells hc0
    obtain ⟨p0, p1, p2, p3, p4⟩ := five_free hc0
    have hndl := nd_le l
    have hR : R = if l.take (nd l) = [] ∨ (1 < (l.take (nd l)).length ∧ (l.take (nd l)).head? = some 48) then none else splitFrac ⟨neg, l.take (nd l), [], false, []⟩ (l.drop (nd l)) := by
      rw [HM.o, take_nd, drop_nd]; rfl
    have htl : (l.take (nd l)).length ≤ s.size := by rw [List.length_take]; omega
    have hdl : (l.drop (nd l)).length ≤ s.size := by rw [List.length_drop]; omega
    generalize l.take (nd l) = A at *
    generalize l.drop (nd l) = D at *
    have HR := hq hR
    clear hR HM
    -- region 4: is there a nought ahead, or nothing?
    go_upto_region 4 with fail
    go_cut [38] (fun c wx => c = .bool (decide (A = [] ∨ (1 < A.length ∧ A.head? = some 48))) ∧ wx = wc)
    case first =>
      by_cases hA : A = []
      · have e1 : A.isEmpty = true := by rw [hA]; rfl
        go_wp2_with fail
        go_meet
        exact ⟨by rw [hA]; rfl, rfl⟩
      · have e1 : A.isEmpty = false := by cases A with | nil => exact absurd rfl hA | cons _ _ => rfl
        have hAp : 0 < A.length := List.length_pos_iff.2 hA
        by_cases hl1 : 1 < A.length
        · have hh : A.head? = some 48 ↔ ((st A)[0]'(by rw [st_size]; omega)).toNat = 48 := by
            cases A with
            | nil => simp at hAp
            | cons c r =>
              constructor
              · intro h; simp at h; subst h; rfl
              · intro h
                have h2 : c.toNat = 48 := h
                have : c = 48 := UInt8.toNat_inj.1 h2
                rw [this]; rfl
          have HH := hq hh
          clear hh
          by_cases h8 : ((st A)[0]'(by rw [st_size]; omega)).toNat = 48
          · have e2 : ((((st A)[0]'(by rw [st_size]; omega)).toNat : Int) == 48) = true := by rw [h8]; rfl
            have HB := hq (HH.o.2 h8)
            clear h8
            go_wp2_with fail
            go_meet
            exact ⟨congrArg Value.bool (decide_eq_true (.inr ⟨hl1, HB.o⟩)).symm, rfl⟩
          · have e2 : ((((st A)[0]'(by rw [st_size]; omega)).toNat : Int) == 48) = false := beq_eq_false_iff_ne.2 (by omega)
            have HB := hq (fun h => h8 (HH.o.1 h))
            clear h8
            go_wp2_with fail
            go_meet
            exact ⟨congrArg Value.bool (decide_eq_false (fun h => h.elim hA (fun x => HB.o x.2))).symm, rfl⟩
        · go_wp2_with fail
          go_meet
          exact ⟨congrArg Value.bool (decide_eq_false (fun h => h.elim hA (fun x => hl1 x.1))).symm, rfl⟩
    case rest =>
      obtain ⟨rfl, rfl⟩ := hcut
      by_cases hbad : A = [] ∨ (1 < A.length ∧ A.head? = some 48)
      · have HN : Hq (R = none) := hq (by rw [HR.o, if_pos hbad])
        have hdc : decide (A = [] ∨ (1 < A.length ∧ A.head? = some 48)) = true := decide_eq_true hbad
        rw [hdc]
        clear HR hbad hdc
        go_wp2_with fail
        refine bodyPost_ret (v := .tuple #[.agg #[.bool false, .string (st []), .string (st []), .bool false, .string (st [])], .bool false]) ?_ rfl ?_
        · simp [results, Tryd.results129, go_sem, r0, r1, r2, r3, r4]
        · exact SplitPost.no ⟨false, [], [], false, []⟩ HN.o rfl (set_five hbc (Nat.le_refl _) _ _ _ _ _)
      · have HR2 := hq (HR.o.trans (if_neg hbad))
        have hdc : decide (A = [] ∨ (1 < A.length ∧ A.head? = some 48)) = false := decide_eq_false hbad
        rw [hdc]
        clear HR hbad hdc
        go_wp2_with fail
        refine (Tryd.strings_CutPrefix (st D) ⟨#[46]⟩ _).mono ?_
        rintro e w1 ⟨rfl, hw1⟩
        obtain rfl := hw1.symm
        rw [show (⟨#[46]⟩ : ByteArray).data.toList = [46] from rfl, prefix_one, trim_one, st_list]
        generalize hdn : (D.head? == some 46) = dn
        generalize hrs : (if dn then D.tail else D) = rs
        have HDN := hq hdn
        have HRS := hq hrs
        clear hdn hrs
        go_upto_if 45 with fail
        go_cut [0] (fun s0 wx => ∃ F D2 : Bs, s0 = .string (st D2) ∧ Hq (R = splitTail ⟨neg, A, F, false, []⟩ D2) ∧ D2.length ≤ s.size ∧ Below w.heap.size w wx ∧ Whole wx w.heap.size 169 #[.bool false, .string (st []), .string (st []), .bool false, .string (st [])] ∧ Whole wx (w.heap.size + 1) 169 #[.bool neg, .string (st A), .string (st F), .bool false, .string (st [])])
        case first =>
          cases dn with
          | false =>
            have hr0 : rs = D := by rw [← HRS.o]; rfl
            go_wp2_with fail
            go_meet
            refine ⟨[], D, rfl, hq ?_, hdl, hbc, hc0, hc1⟩
            rw [HR2.o]
            have hh := HDN.o
            clear HR2 HRS hr0
            match D with
            | [] => rfl
            | c :: r =>
              by_cases hc : c = 46
              · subst hc; simp at hh
              · unfold splitFrac
                split
                · rename_i h; injection h with h1 _; exact absurd h1 hc
                · rfl
          | true =>
            obtain ⟨r, rfl⟩ : ∃ r, D = 46 :: r := by
              have hd := HDN.o
              cases D with
              | nil => simp at hd
              | cons c r => simp at hd; exact ⟨r, by rw [hd]⟩
            have hr0 : rs = r := by rw [← HRS.o]; rfl
            subst hr0
            have HR3 : Hq (R = if rs.take (nd rs) = [] then none else splitTail ⟨neg, A, rs.take (nd rs), false, []⟩ (rs.drop (nd rs))) := hq (by rw [HR2.o, take_nd, drop_nd]; rfl)
            clear HR2 HRS HDN
            have hrl : rs.length ≤ s.size := by simp at hdl; omega
            go_upto_region 8 with fail
            go_cut [0] (fun s0 wx => s0 = .string (st (rs.drop (nd rs))) ∧ Below w.heap.size w wx ∧ Whole wx w.heap.size 169 #[.bool false, .string (st []), .string (st []), .bool false, .string (st [])] ∧ Whole wx (w.heap.size + 1) 169 #[.bool neg, .string (st A), .string (st (rs.take (nd rs))), .bool false, .string (st [])])
            case first =>
              have HZ : Hq ((st rs).size ≤ maxLen) := hq (by rw [st_size]; unfold maxLen; omega)
              have hndr := nd_le rs
              have f2 := hc1.free 2
              have hbel2 := hbc.drew
              go_region_with (go_at_call 143; refine (digits_any _ _ HZ.o).mono ?_; rw [st_list]; rintro e w1 ⟨rfl, hb1⟩; have hW1 : Whole w1 (w.heap.size + 1) 169 #[.bool neg, .string (st A), .string (st []), .bool false, .string (st [])] := Whole.grow (by assumption) hb1; obtain ⟨_, _, q1, _, _⟩ := five_cells hW1; have q2 := hW1.free 2; have hbx : Below w.heap.size w w1 := below_trans (by assumption) hb1; have hR1 : Whole w1 w.heap.size 169 #[.bool false, .string (st []), .string (st []), .bool false, .string (st [])] := Whole.grow (by assumption) hb1)
              all_goals (go_wp2_with fail; go_meet)
              all_goals (rw [cut_left, cut_right]; exact ⟨rfl, hbx.setCell (by simp) _, hR1.far (by simp) _, hW1.put 2 _⟩)
            case rest =>
              clear k0 k1 k2 k3 k4 r0 r1 r2 r3 r4 p0 p1 p2 p3 p4 hbc hc0 hc1
              obtain ⟨rfl, hbc, hc0, hc1⟩ := hcut
              obtain ⟨k0, k1, k2, k3, k4⟩ := five_cells hc1
              obtain ⟨r0, r1, r2, r3, r4⟩ := five_cells hc0
              obtain ⟨p0, p1, p2, p3, p4⟩ := five_free hc0
              have hdl2 : (rs.drop (nd rs)).length ≤ s.size := by rw [List.length_drop]; omega
              have hfl : (rs.take (nd rs)).length ≤ s.size := by rw [List.length_take]; omega
              generalize rs.take (nd rs) = F at *
              generalize rs.drop (nd rs) = D2 at *
              by_cases hF : F = []
              · have HN : Hq (R = none) := hq (by rw [HR3.o, if_pos hF])
                clear HR3
                have e3 : F.isEmpty = true := by rw [hF]; rfl
                go_wp2_with fail
                refine bodyPost_ret (v := .tuple #[.agg #[.bool false, .string (st []), .string (st []), .bool false, .string (st [])], .bool false]) ?_ rfl ?_
                · simp [results, Tryd.results129, go_sem, r0, r1, r2, r3, r4]
                · exact SplitPost.no ⟨false, [], [], false, []⟩ HN.o rfl (set_five hbc (Nat.le_refl _) _ _ _ _ _)
              · have HR4 := hq (HR3.o.trans (if_neg hF))
                clear HR3
                have e3 : F.isEmpty = false := by cases F with | nil => exact absurd rfl hF | cons _ _ => rfl
                clear hF
                go_wp2_with fail
                go_meet
                exact ⟨F, D2, rfl, HR4, hdl2, hbc, hc0, hc1⟩
        case rest =>
          clear k0 k1 k2 k3 k4 r0 r1 r2 r3 r4 p0 p1 p2 p3 p4 hbc hc0 hc1
          obtain ⟨F, D2, rfl, HR4, hdl2, hbc, hc0, hc1⟩ := hcut
          obtain ⟨k0, k1, k2, k3, k4⟩ := five_cells hc1
          obtain ⟨r0, r1, r2, r3, r4⟩ := five_cells hc0
          obtain ⟨p0, p1, p2, p3, p4⟩ := five_free hc0
          by_cases hD : D2 = []
          · have HY : Hq (R = some ⟨neg, A, F, false, []⟩) := hq (by rw [HR4.o, hD]; rfl)
            have e4 : D2.isEmpty = true := by rw [hD]; rfl
            clear HR4 hD
            go_wp2_with fail
            refine bodyPost_ret (v := .tuple #[.agg #[.bool neg, .string (st A), .string (st F), .bool false, .string (st [])], .bool true]) ?_ rfl ?_
            · simp [results, Tryd.results129, go_sem, r0, r1, r2, r3, r4]
            · exact SplitPost.yes HY.o rfl (set_five hbc (Nat.le_refl _) _ _ _ _ _)
          · have e4 : D2.isEmpty = false := by cases D2 with | nil => exact absurd rfl hD | cons _ _ => rfl
            have hDp : 0 < D2.length := List.length_pos_iff.2 hD
            have hz0 : 0 < (st D2).size := by rw [st_size]; exact hDp
            have HR5 : Hq (R = if (st D2)[0].toNat = 101 ∨ (st D2)[0].toNat = 69 then splitExp ⟨neg, A, F, false, []⟩ (D2.drop 1) else none) := hq (by
              rw [HR4.o]
              cases D2 with
              | nil => exact absurd rfl hD
              | cons c r => exact splitTail_cons _ c r)
            clear HR4 hD
            generalize hT0 : (st D2)[0].toNat = n0 at HR5
            have hT0z : (((st D2)[0]).toNat : Int) = (n0 : Int) := by rw [hT0]
            clear hT0
            go_upto_region 13 with fail
            go_cut [69] (fun c wx => c = .bool (decide (¬ (n0 = 101 ∨ n0 = 69))) ∧ wx = wc)
            case first =>
              by_cases h1 : n0 = 101
              · have e5 : ((n0 : Int) != 101) = false := by subst h1; rfl
                have hh : Hq (decide (¬ (n0 = 101 ∨ n0 = 69)) = false) := hq (decide_eq_false (fun h => h (.inl h1)))
                clear h1
                go_wp2_with fail
                go_meet
                exact ⟨congrArg Value.bool hh.o.symm, rfl⟩
              · have e5 : ((n0 : Int) != 101) = true := by rw [bne_iff_ne]; omega
                by_cases h2 : n0 = 69
                · have e6 : ((n0 : Int) != 69) = false := by subst h2; rfl
                  have hh : Hq (decide (¬ (n0 = 101 ∨ n0 = 69)) = false) := hq (decide_eq_false (fun h => h (.inr h2)))
                  clear h1 h2
                  go_wp2_with fail
                  go_meet
                  exact ⟨congrArg Value.bool hh.o.symm, rfl⟩
                · have e6 : ((n0 : Int) != 69) = true := by rw [bne_iff_ne]; omega
                  have hh : Hq (decide (¬ (n0 = 101 ∨ n0 = 69)) = true) := hq (decide_eq_true (fun h => h.elim h1 h2))
                  clear h1 h2
                  go_wp2_with fail
                  go_meet
                  exact ⟨congrArg Value.bool hh.o.symm, rfl⟩
            case rest =>
              obtain ⟨rfl, rfl⟩ := hcut
              by_cases hE : n0 = 101 ∨ n0 = 69
              · have HR6 := hq (HR5.o.trans (if_pos hE))
                have hdc : decide (¬ (n0 = 101 ∨ n0 = 69)) = false := decide_eq_false (fun h => h hE)
                rw [hdc]
                clear HR5 hE hdc
                have hd1 : (D2.drop 1).length ≤ s.size := by rw [List.length_drop]; omega
                go_wp2_with fail
                refine (Tryd.strings_CutPrefix _ ⟨#[45]⟩ _).mono ?_
                rintro e w1 ⟨rfl, hw1⟩
                obtain rfl := hw1.symm
                rw [show (⟨#[45]⟩ : ByteArray).data.toList = [45] from rfl, cut_right, prefix_one, trim_one, st_list]
                generalize hE : D2.drop 1 = E at *
                clear hE
                have hEt : E.tail.length ≤ s.size := by rw [List.length_tail]; omega
                generalize hdn : (E.head? == some 45) = dn
                generalize hrs : (if dn then E.tail else E) = rs
                have HDN := hq hdn
                have HRS := hq hrs
                clear hdn hrs
                go_upto_if 78 with fail
                go_cut [0] (fun s0 wx => ∃ (T : Bs) (db : Bool), s0 = .string (st T) ∧ Hq (R = splitFin ⟨neg, A, F, false, []⟩ db T) ∧ T.length ≤ s.size ∧ Below w.heap.size w wx ∧ Whole wx w.heap.size 169 #[.bool false, .string (st []), .string (st []), .bool false, .string (st [])] ∧ Whole wx (w.heap.size + 1) 169 #[.bool neg, .string (st A), .string (st F), .bool db, .string (st [])])
                case first =>
                  cases dn with
                  | true =>
                    have hr0 : rs = E.tail := by rw [← HRS.o]; rfl
                    subst hr0
                    have HR7 : Hq (R = splitFin ⟨neg, A, F, false, []⟩ true E.tail) := hq (by rw [HR6.o]; unfold splitExp; rw [HDN.o, if_pos rfl])
                    clear HR6 HDN HRS
                    have q3 := hc1.free 3
                    go_wp2_with fail
                    go_meet
                    exact ⟨E.tail, true, rfl, HR7, hEt, hbc.setCell (by simp) _, hc0.far (by simp) _, hc1.put 3 _⟩
                  | false =>
                    have HR7 : Hq (R = splitFin ⟨neg, A, F, false, []⟩ false (if E.head? == some 43 then E.tail else E)) := hq (by rw [HR6.o]; unfold splitExp; rw [HDN.o, if_neg (by decide)])
                    clear HR6 HDN HRS
                    have hEz : (if E.head? == some 43 then E.tail else E).length ≤ s.size := by
                      split
                      · exact hEt
                      · exact hd1
                    go_wp2_with fail
                    refine (Tryd.strings_TrimPrefix (st E) ⟨#[43]⟩ _).mono ?_
                    rintro e w1 ⟨rfl, hw1⟩
                    obtain rfl := hw1.symm
                    rw [show (⟨#[43]⟩ : ByteArray).data.toList = [43] from rfl, trim_one, st_list]
                    generalize (if E.head? == some 43 then E.tail else E) = T at *
                    go_wp2_with fail
                    go_meet
                    exact ⟨T, false, rfl, HR7, hEz, hbc, hc0, hc1⟩
                case rest =>
                  clear k0 k1 k2 k3 k4 r0 r1 r2 r3 r4 p0 p1 p2 p3 p4 hbc hc0 hc1
                  obtain ⟨T, db, rfl, HR7, hTl, hbc, hc0, hc1⟩ := hcut
                  have k4 := hc1.at_ 4
                  have q4 := hc1.free 4
                  have k4 : wc.cell? ⟨w.heap.size + 1, 4, none⟩ = some (.string (st [])) := k4
                  go_upto_region 21 with fail
                  have hd1c := hc1.put 4 (.string (st T))
                  have hd0c := hc0.far (p := ⟨w.heap.size + 1, 4, none⟩) (by simp) (.string (st T))
                  have hbd := hbc.setCell (p := ⟨w.heap.size + 1, 4, none⟩) (by simp) (.string (st T))
                  clear k4 q4
                  generalize (wc.setCell ⟨w.heap.size + 1, 4, none⟩ (.string (st T))) = W2 at *
                  have hd1c : Whole W2 (w.heap.size + 1) 169 #[.bool neg, .string (st A), .string (st F), .bool db, .string (st T)] := hd1c
                  obtain ⟨k0, k1, k2, k3, k4⟩ := five_cells hd1c
                  obtain ⟨r0, r1, r2, r3, r4⟩ := five_cells hd0c
                  obtain ⟨p0, p1, p2, p3, p4⟩ := five_free hd0c
                  have hbel2 := hbd.drew
                  by_cases hT : T = []
                  · have HN : Hq (R = none) := hq (by rw [HR7.o]; unfold splitFin; rw [if_neg (fun h => h.1 hT)])
                    clear HR7
                    subst hT
                    go_region
                    all_goals go_wp2_with fail
                    all_goals refine bodyPost_ret (v := .tuple #[.agg #[.bool neg, .string (st A), .string (st F), .bool db, .string (st [])], .bool false]) ?_ rfl ?_
                    all_goals first
                      | exact SplitPost.no ⟨neg, A, F, db, []⟩ HN.o rfl (set_five hbd (Nat.le_refl _) _ _ _ _ _).drew
                      | simp [results, Tryd.results129, go_sem, r0, r1, r2, r3, r4]
                  · obtain ⟨c, T', rfl⟩ : ∃ c T', T = c :: T' := by
                      cases T with
                      | nil => exact absurd rfl hT
                      | cons c r => exact ⟨c, r, rfl⟩
                    have HZ : Hq ((st (c :: T')).size ≤ maxLen) := hq (by rw [st_size]; unfold maxLen; omega)
                    clear hT
                    generalize hnd : nd (c :: T') = nn
                    by_cases hall : nn = T'.length + 1
                    · have HY : Hq (R = some ⟨neg, A, F, db, c :: T'⟩) := hq (by
                        rw [HR7.o]; unfold splitFin; rw [if_pos]
                        refine ⟨by simp, ?_⟩
                        cases hx : (c :: T').all isDig with
                        | true => rfl
                        | false => exact absurd (hnd.trans hall) (nd_not _ hx))
                      subst hall
                      have HND := hq hnd
                      clear HR7 hnd
                      go_region_with (go_at_call 143; refine (digits_any _ _ HZ.o).mono ?_; rw [st_list, HND.o]; rintro e w1 ⟨rfl, hb1⟩; have hW1 : Whole w1 (w.heap.size + 1) 169 #[.bool neg, .string (st A), .string (st F), .bool db, .string (st (c :: T'))] := Whole.grow (by assumption) hb1; obtain ⟨k0, k1, k2, k3, k4⟩ := five_cells hW1; have hbx : Below w.heap.size w w1 := below_trans (by assumption) hb1; have hR1 : Whole w1 w.heap.size 169 #[.bool false, .string (st []), .string (st []), .bool false, .string (st [])] := Whole.grow (by assumption) hb1; obtain ⟨r0, r1, r2, r3, r4⟩ := five_cells hR1; obtain ⟨p0, p1, p2, p3, p4⟩ := five_free hR1)
                      all_goals go_wp2_with fail
                      all_goals refine bodyPost_ret (v := .tuple #[.agg #[.bool neg, .string (st A), .string (st F), .bool db, .string (st (c :: T'))], .bool true]) ?_ rfl ?_
                      all_goals first
                        | exact SplitPost.yes HY.o rfl (set_five hbx (Nat.le_refl _) _ _ _ _ _)
                        | simp [results, Tryd.results129, go_sem, r0, r1, r2, r3, r4]
                    · have HN : Hq (R = none) := hq (by
                        rw [HR7.o]; unfold splitFin; rw [if_neg]
                        intro h
                        exact hall (hnd.symm.trans (nd_all _ h.2)))
                      have eqf : (((nn : Nat) : Int) == ((T'.length : Nat) : Int) + 1) = false := beq_eq_false_iff_ne.2 (by omega)
                      have HND := hq hnd
                      clear HR7 hnd
                      go_region_with (go_at_call 143; refine (digits_any _ _ HZ.o).mono ?_; rw [st_list, HND.o]; rintro e w1 ⟨rfl, hb1⟩; have hW1 : Whole w1 (w.heap.size + 1) 169 #[.bool neg, .string (st A), .string (st F), .bool db, .string (st (c :: T'))] := Whole.grow (by assumption) hb1; obtain ⟨k0, k1, k2, k3, k4⟩ := five_cells hW1; have hbx : Below w.heap.size w w1 := below_trans (by assumption) hb1; have hR1 : Whole w1 w.heap.size 169 #[.bool false, .string (st []), .string (st []), .bool false, .string (st [])] := Whole.grow (by assumption) hb1; obtain ⟨r0, r1, r2, r3, r4⟩ := five_cells hR1; obtain ⟨p0, p1, p2, p3, p4⟩ := five_free hR1)
                      all_goals go_wp2_with fail
                      all_goals refine bodyPost_ret (v := .tuple #[.agg #[.bool neg, .string (st A), .string (st F), .bool db, .string (st (c :: T'))], .bool false]) ?_ rfl ?_
                      all_goals first
                        | exact SplitPost.no ⟨neg, A, F, db, c :: T'⟩ HN.o rfl (set_five hbx (Nat.le_refl _) _ _ _ _ _)
                        | simp [results, Tryd.results129, go_sem, r0, r1, r2, r3, r4]
              · have HN : Hq (R = none) := hq (HR5.o.trans (if_neg hE))
                have hdc : decide (¬ (n0 = 101 ∨ n0 = 69)) = true := decide_eq_true hE
                rw [hdc]
                clear HR5 hE hdc
                go_wp2_with fail
                refine bodyPost_ret (v := .tuple #[.agg #[.bool false, .string (st []), .string (st []), .bool false, .string (st [])], .bool false]) ?_ rfl ?_
                · simp [results, Tryd.results129, go_sem, r0, r1, r2, r3, r4]
                · exact SplitPost.no ⟨false, [], [], false, []⟩ HN.o rfl (set_five hbc (Nat.le_refl _) _ _ _ _ _)
end Go.Proofs.YtmomildkopainaaDoor

namespace Go.Proofs.YtmomildkopainaaDoor
open Go.RowKit

/-- a decimal: below nought, its digits, its exponent -/
structure Dec where
  neg : Bool
  digits : Bs
  exp : Int
  deriving DecidableEq
def Dec.zero : Dec := ⟨false, [], 0⟩
def Dec.val (d : Dec) : Value := .agg #[.bool d.neg, .string (st d.digits), .int .i64 d.exp]

/-- digits as a whole number -/
def numOf (l : Bs) : Int := l.foldl (fun n c => n * 10 + ((c.toNat : Int) - 48)) 0
def stripL (l : Bs) : Bs := Lib.trimLeftB l 48
def stripR (l : Bs) : Bs := Lib.trimRightB l 48
/-- what parts are, their exponent's digits being these -/
def numM (neg : Bool) (whole frac : Bs) (down : Bool) (power : Bs) : Dec :=
  let all := stripL (whole ++ frac)
  let short := stripR all
  if short = [] then .zero else ⟨neg, short, (if down then - numOf power else numOf power) - frac.length + all.length - short.length⟩

theorem numOf_snoc (l : Bs) (c : UInt8) : numOf (l ++ [c]) = numOf l * 10 + ((c.toNat : Int) - 48) := by
  unfold numOf; rw [List.foldl_append]; rfl
theorem numOf_bd (l : Bs) (h : l.all isDig = true) : 0 ≤ numOf l ∧ numOf l ≤ 10 ^ l.length - 1 := by
  suffices H : ∀ (n : Nat) (l : Bs), l.length = n → l.all isDig = true → 0 ≤ numOf l ∧ numOf l ≤ 10 ^ l.length - 1 from H _ l rfl h
  intro n
  induction n with
  | zero => intro l hl _; have : l = [] := List.eq_nil_of_length_eq_zero hl; subst this; simp [numOf]
  | succ n ih =>
    intro l hl ha
    obtain ⟨m, c, rfl⟩ : ∃ m c, l = m ++ [c] := ⟨l.dropLast, l.getLast (by intro h; rw [h] at hl; simp at hl), (List.dropLast_concat_getLast _).symm⟩
    simp only [List.length_append, List.length_cons, List.length_nil, List.all_append, List.all_cons, List.all_nil, Bool.and_true, Bool.and_eq_true] at hl ha ⊢
    have hm := ih m (by omega) ha.1
    have hc := ha.2
    unfold isDig at hc
    simp only [Bool.and_eq_true, decide_eq_true_eq] at hc
    rw [numOf_snoc]
    have hp : (10 : Int) ^ (m.length + 1) = 10 * 10 ^ m.length := by rw [Int.pow_succ]; omega
    rw [Nat.zero_add, hp]
    omega
theorem numOf_le (l : Bs) (h : l.all isDig = true) (hl : l.length ≤ 9) : 0 ≤ numOf l ∧ numOf l ≤ 999999999 := by
  have := numOf_bd l h
  have hm : (10 : Int) ^ l.length ≤ 10 ^ 9 := by
    have h2 : (10 : Nat) ^ l.length ≤ 10 ^ 9 := Nat.pow_le_pow_right (by omega) hl
    exact_mod_cast h2
  have e : (10 : Int) ^ 9 = 1000000000 := by decide
  omega
theorem stripL_le (l : Bs) : (stripL l).length ≤ l.length := by
  unfold stripL Lib.trimLeftB
  exact (List.dropWhile_suffix _).length_le
theorem stripR_le (l : Bs) : (stripR l).length ≤ l.length := by
  unfold stripR Lib.trimRightB
  rw [List.length_reverse]
  have := (List.dropWhile_suffix (p := (· == (48 : UInt8))) (l := l.reverse)).length_le
  rwa [List.length_reverse] at this
theorem cat_st (a b : Bs) : st a ++ st b = st (a ++ b) := by
  apply ByteArray.ext
  simp
theorem three_cells {w : World} {g : Nat} {t : TypeId} {a b c : Value} (h : Whole w g t #[a, b, c]) :
    w.cell? ⟨g, 0, none⟩ = some a ∧ w.cell? ⟨g, 1, none⟩ = some b ∧ w.cell? ⟨g, 2, none⟩ = some c := ⟨h.at_ 0, h.at_ 1, h.at_ 2⟩

def DecPost (R : Dec) (w : World) (e : Ending) (w' : World) : Prop := e = .returned R.val ∧ Below w.heap.size w w'
def expOf (down : Bool) (power : Bs) : Int := if down then - numOf power else numOf power

set_option maxHeartbeats 1000000 in
set_option maxRecDepth 1000000 in
theorem number_any (neg : Bool) (whole frac : Bs) (down : Bool) (p0 : Value) (power : Bs) (w : World) (hd : power.all isDig = true) (hl : power.length ≤ 9) (hw : whole.length + frac.length ≤ 1099511627776) :
    Calls Tryd.prog 131 #[.agg #[.bool neg, .string (st whole), .string (st frac), .bool down, p0], .string (st power)] w (DecPost (numM neg whole frac down power) w) := by
  generalize hR : numM neg whole frac down power = R
  have HR := hq hR
  clear hR
  have HD := hq hd
  clear hd
  have hz : (st power).size = power.length := st_size power
  go_enter Tryd.func131, Tryd.ntmps131
  go_wp2_with fail
  go_loopw [5] (fun x wr => ∃ pos : Nat, pos ≤ power.length ∧ x = .int .i64 (numOf (power.take pos)) ∧ wr.heap[w.heap.size + 2]? = some (.stringIter (st power) pos) ∧ Below w.heap.size w wr ∧
      Whole wr w.heap.size 169 #[.bool neg, .string (st whole), .string (st frac), .bool down, p0] ∧ Whole wr (w.heap.size + 1) 122 #[.bool false, .string (st []), .int .i64 0])
    (fun _ wr => power.length - wr.iterPos (w.heap.size + 2))
  case atStart =>
    have hW0 := Whole.made w 169 #[.bool neg, .string (st whole), .string (st frac), .bool down, p0]
    have hW1 := Whole.made (w.alloc (.cells #[.bool neg, .string (st whole), .string (st frac), .bool down, p0] 169)) 122 #[.bool false, .string (st []), .int .i64 0]
    rw [World.size_alloc] at hW1
    refine ⟨0, by omega, rfl, ?_, ?_, (hW0.alloc _).alloc _, hW1.alloc _⟩
    · have := World.iter_heap ((w.alloc (.cells #[.bool neg, .string (st whole), .string (st frac), .bool down, p0] 169)).alloc (.cells #[.bool false, .string (st []), .int .i64 0] 122)) (st power) 0
      simpa using this
    · exact ((below_alloc w _).alloc (by rw [World.size_alloc]; omega) _).alloc (by rw [World.size_alloc, World.size_alloc]; omega) _
  case round =>
    obtain ⟨pos, hpos, rfl, hit, hb, hc0, hc1⟩ := hrel
    by_cases hp : pos < power.length
    · have hnx : ∀ ty, (Instr.next (.pointer (some ⟨w.heap.size + 2, 0, none⟩)) true ty).run Tryd.prog wr = _ := fun ty => Lib.run_next_any_at wr (w.heap.size + 2) (st power) pos ty hit (by rw [hz]; exact hp)
      have hdg : 48 ≤ byt (st power) pos ∧ byt (st power) pos ≤ 57 := by
        have h1 := List.all_eq_true.1 HD.o power[pos] (List.getElem_mem hp)
        have h2 := isDig_byt (st power) pos (by rw [st_list]; exact hp)
        simp only at h2
        rw [h2] at h1
        simpa using h1
      have hdc := dec_low (st power) pos (by omega)
      rw [hdc] at hnx
      have hit2 := Lib.iterAt_heap wr (w.heap.size + 2) (st power) pos (pos + 1) hit
      have hb2 := Lib.below_iterAt hb (k := w.heap.size + 2) (by omega) (st power) (pos + 1)
      have hc0' : Whole (wr.iterAt (w.heap.size + 2) (st power) (pos + 1)) w.heap.size 169 #[.bool neg, .string (st whole), .string (st frac), .bool down, p0] := (Lib.iterAt_other wr (w.heap.size + 2) w.heap.size _ _ (by omega)).trans hc0
      have hc1' : Whole (wr.iterAt (w.heap.size + 2) (st power) (pos + 1)) (w.heap.size + 1) 122 #[.bool false, .string (st []), .int .i64 0] := (Lib.iterAt_other wr (w.heap.size + 2) (w.heap.size + 1) _ _ (by omega)).trans hc1
      have hsn : Hq (numOf (power.take (pos + 1)) = numOf (power.take pos) * 10 + ((byt (st power) pos : Int) - 48)) := hq (by
        rw [List.take_succ_eq_append_getElem hp, numOf_snoc, byt_eq (st power) pos (by rw [hz]; exact hp)]
        rfl)
      have hbd : 0 ≤ numOf (power.take pos) ∧ numOf (power.take pos) ≤ 999999999 := numOf_le _ (by
        rw [List.all_eq_true]; intro x hx; exact List.all_eq_true.1 HD.o x (List.mem_of_mem_take hx)) (by rw [List.length_take]; omega)
      generalize numOf (power.take pos) = X at *
      generalize byt (st power) pos = C at *
      clear hdc
      go_wp2_with fail
      go_roundw
      case rel => exact ⟨pos + 1, by omega, by rw [hsn.o], hit2, hb2, hc0', hc1'⟩
      case measure => simp only [World.iterPos, hit2, hit]; omega
    · have hnx : ∀ ty, (Instr.next (.pointer (some ⟨w.heap.size + 2, 0, none⟩)) true ty).run Tryd.prog wr = _ := fun ty => Lib.run_next_end_at wr (w.heap.size + 2) (st power) pos ty hit (by rw [hz]; exact hp)
      obtain rfl : pos = power.length := by omega
      rw [List.take_length]
      have hbd := numOf_le _ HD.o hl
      have HXE : Hq (expOf down power = if down then - numOf power else numOf power) := hq rfl
      have HR2 : Hq (R = if stripR (stripL (whole ++ frac)) = [] then .zero else ⟨neg, stripR (stripL (whole ++ frac)), expOf down power - frac.length + (stripL (whole ++ frac)).length - (stripR (stripL (whole ++ frac))).length⟩) := hq (by rw [← HR.o]; rfl)
      generalize numOf power = X at *
      obtain ⟨k0, k1, k2, k3, k4⟩ : wr.cell? ⟨w.heap.size, 0, none⟩ = some (.bool neg) ∧ wr.cell? ⟨w.heap.size, 1, none⟩ = some (.string (st whole)) ∧ wr.cell? ⟨w.heap.size, 2, none⟩ = some (.string (st frac)) ∧ wr.cell? ⟨w.heap.size, 3, none⟩ = some (.bool down) ∧ wr.cell? ⟨w.heap.size, 4, none⟩ = some p0 := ⟨hc0.at_ 0, hc0.at_ 1, hc0.at_ 2, hc0.at_ 3, hc0.at_ 4⟩
      obtain ⟨r0, r1, r2⟩ := three_cells hc1
      have q0 := hc1.free 0
      have q1 := hc1.free 1
      have q2 := hc1.free 2
      go_upto_if 22 with fail
      go_cut [5] (fun x wx => x = .int .i64 (expOf down power) ∧ wx = wr)
      case first =>
        cases down with
        | true =>
          go_wp2_with fail
          go_meet
          exact ⟨by rw [HXE.o]; rfl, rfl⟩
        | false =>
          go_wp2_with fail
          go_meet
          exact ⟨by rw [HXE.o]; rfl, rfl⟩
      case rest =>
        obtain ⟨rfl, rfl⟩ := hcut
        have hxb : -999999999 ≤ expOf down power ∧ expOf down power ≤ 999999999 := by rw [HXE.o]; split <;> omega
        clear HXE
        generalize expOf down power = Y at *
        have hla := stripL_le (whole ++ frac)
        have hra := stripR_le (stripL (whole ++ frac))
        rw [List.length_append] at hla
        go_wp2_with fail
        rw [cat_st]
        refine (Tryd.strings_TrimLeft_one (st (whole ++ frac)) 48 (by decide) _).mono ?_
        rw [st_list, show Lib.trimLeftB (whole ++ frac) 48 = stripL (whole ++ frac) from rfl]
        generalize stripL (whole ++ frac) = AL at *
        rintro e w1 ⟨rfl, hw1⟩
        obtain rfl := hw1.symm
        go_wp2_with fail
        refine (Tryd.strings_TrimRight_one (st AL) 48 (by decide) _ (by rw [st_size]; omega)).mono ?_
        rw [st_list, show Lib.trimRightB AL 48 = stripR AL from rfl]
        generalize stripR AL = SH at *
        rintro e w1 ⟨rfl, hw1⟩
        obtain rfl := hw1.symm
        by_cases hS : SH = []
        · have HY : Hq (R = .zero) := hq (by rw [HR2.o, if_pos hS])
          have e1 : SH.isEmpty = true := by rw [hS]; rfl
          clear HR2 hS
          go_wp2_with fail
          refine bodyPost_ret (v := Dec.zero.val) ?_ rfl ?_
          · simp [results, Tryd.results131, go_sem, r0, r1, r2, Dec.zero, Dec.val]
          · exact ⟨by rw [HY.o], ((hb.setCell (p := ⟨w.heap.size + 1, 0, none⟩) (by simp) _).setCell (p := ⟨w.heap.size + 1, 1, none⟩) (by simp) _).setCell (p := ⟨w.heap.size + 1, 2, none⟩) (by simp) _⟩
        · have HY : Hq (R = ⟨neg, SH, Y - frac.length + AL.length - SH.length⟩) := hq (by rw [HR2.o, if_neg hS])
          have e1 : SH.isEmpty = false := by cases SH with | nil => exact absurd rfl hS | cons _ _ => rfl
          clear HR2 hS
          go_wp2_with fail
          refine bodyPost_ret (v := (Dec.mk neg SH (Y - frac.length + AL.length - SH.length)).val) ?_ rfl ?_
          · simp [results, Tryd.results131, go_sem, r0, r1, r2, Dec.val]
          · exact ⟨by rw [HY.o], ((hb.setCell (p := ⟨w.heap.size + 1, 0, none⟩) (by simp) _).setCell (p := ⟨w.heap.size + 1, 1, none⟩) (by simp) _).setCell (p := ⟨w.heap.size + 1, 2, none⟩) (by simp) _⟩
end Go.Proofs.YtmomildkopainaaDoor

namespace Go.Proofs.YtmomildkopainaaDoor
open Go.RowKit

def Dec.bad (D : Bs) : Prop := D.length < 1 ∨ 1000 < D.length ∨ D.all isDig = false
instance instDecNumBad (D : Bs) : Decidable (Dec.bad D) := by unfold Dec.bad; infer_instance
def Dec.nought0 (D : Bs) : Prop := D.head? = some 48 ∨ D.getLast? = some 48
instance instDecNumNought (D : Bs) : Decidable (Dec.nought0 D) := by unfold Dec.nought0; infer_instance
def Dec.right (d : Dec) : Bool :=
  if d = .zero then true else if Dec.bad d.digits then false else if Dec.nought0 d.digits then false else decide (-1000000 ≤ d.exp ∧ d.exp ≤ 1000000)

theorem nd_len (l : Bs) : nd l = l.length ↔ l.all isDig = true := by
  constructor
  · intro h
    have h2 : l.takeWhile isDig = l := (List.takeWhile_prefix isDig).eq_of_length h
    have h3 : ∀ m : Bs, m.takeWhile isDig = m → m.all isDig = true := by
      intro m
      induction m with
      | nil => intro _; rfl
      | cons c m ih =>
        intro hm
        rw [List.takeWhile_cons] at hm
        split at hm
        · rename_i hc
          simp only [List.cons.injEq, true_and] at hm
          rw [List.all_cons, hc, ih hm]; rfl
        · cases hm
    exact h3 l h2
  · intro h
    unfold nd
    have h2 : l.takeWhile isDig = l := by
      induction l with
      | nil => rfl
      | cons c l ih =>
        simp only [List.all_cons, Bool.and_eq_true] at h
        rw [List.takeWhile_cons, if_pos h.1, ih h.2]
    rw [h2]

set_option maxRecDepth 100000 in
theorem eq_num0 (neg : Bool) (D : Bs) (E : Int) : ∀ W : World, (Op.equalIn 10000 122 (.agg #[.bool neg, .string (st D), .int .i64 E]) (.agg #[.bool false, .string ⟨#[]⟩, .int .i64 0])).run Tryd.prog W = .ok (decide (neg = false ∧ D = [] ∧ E = 0)) W := by
  intro W
  have h23 := Tryd.underlying122
  have hst : Tryd.prog.stoodInHeld 122 = false := by kernel_rfl
  cases neg <;> by_cases hD : D = [] <;> by_cases hE : E = 0
  all_goals (try subst hD)
  all_goals (try subst hE)
  all_goals go_simp
theorem eq_num (neg : Bool) (D : Bs) (E : Int) : ∀ W : World, (Op.equalIn 10000 122 (.agg #[.bool neg, .string (st D), .int .i64 E]) (.agg #[.bool false, .string ⟨#[]⟩, .int .i64 0])).run Tryd.prog W = .ok (decide (Dec.mk neg D E = .zero)) W := by
  intro W
  rw [eq_num0]
  congr 1
  refine decide_eq_decide.2 ⟨fun ⟨h1, h2, h3⟩ => by rw [h1, h2, h3]; rfl, fun h => ⟨congrArg Dec.neg h, congrArg Dec.digits h, congrArg Dec.exp h⟩⟩

set_option maxHeartbeats 1000000 in
set_option maxRecDepth 1000000 in
theorem right_any (neg : Bool) (D : Bs) (E : Int) (w : World) (hD : D.length ≤ 1099511627776) (hE : -9223372036854775808 ≤ E ∧ E ≤ 9223372036854775807) :
    Calls Tryd.prog 132 #[.agg #[.bool neg, .string (st D), .int .i64 E]] w fun e w' => e = .returned (.bool (Dec.right ⟨neg, D, E⟩)) ∧ Below w.heap.size w w' := by
  obtain ⟨hE1, hE2⟩ := hE
  generalize hR : Dec.right ⟨neg, D, E⟩ = R
  have HR := hq hR
  clear hR
  have HZ : Hq ((st D).size ≤ maxLen) := hq (by rw [st_size]; unfold maxLen; omega)
  go_enter Tryd.func132, Tryd.ntmps132
  go_upto_region 1 with fail
  have hW := Whole.made w 122 #[.bool neg, .string (st D), .int .i64 E]
  have hb := below_alloc w (.cells #[.bool neg, .string (st D), .int .i64 E] 122)
  generalize hWW : w.alloc (.cells #[.bool neg, .string (st D), .int .i64 E] 122) = W at *
  clear hWW
  obtain ⟨c0, c1, c2⟩ := three_cells hW
  have heq := eq_num neg D E
  generalize hB : decide (Dec.mk neg D E = .zero) = B at heq
  have HB := hq hB
  clear hB
  go_cut [5] (fun c wx => c = .bool B ∧ wx = W)
  case first =>
    go_wp2_with fail
    go_meet
    exact ⟨rfl, rfl⟩
  case rest =>
    obtain ⟨rfl, rfl⟩ := hcut
    clear heq
    rw [← HB.o]
    clear HB
    by_cases hz : Dec.mk neg D E = .zero
    · have HT : Hq (R = true) := hq (by rw [← HR.o]; unfold Dec.right; rw [if_pos hz])
      rw [decide_eq_true hz]
      clear HR hz
      go_wp2_with fail
      go_ret
      exact ⟨by rw [HT.o]; rfl, hb⟩
    · rw [decide_eq_false hz]
      have HR2 : Hq (R = if Dec.bad D then false else if Dec.nought0 D then false else decide (-1000000 ≤ E ∧ E ≤ 1000000)) := hq (by rw [← HR.o]; unfold Dec.right; rw [if_neg hz])
      clear HR hz
      go_upto_region 3 with fail
      go_cut [24] (fun c wx => c = .bool (decide (Dec.bad D)) ∧ Below w.heap.size w wx ∧ Whole wx w.heap.size 122 #[.bool neg, .string (st D), .int .i64 E])
      case first =>
        by_cases h1 : D.length < 1
        · have hh : Hq (decide (Dec.bad D) = true) := hq (decide_eq_true (.inl h1))
          have g1 : decide (((D.length : Nat) : Int) < 1) = true := decide_eq_true (by omega)
          go_region
          all_goals go_wp2_with fail
          all_goals go_meet
          all_goals exact ⟨congrArg Value.bool hh.o.symm, hb.drew, hW⟩
        · have g1 : decide (((D.length : Nat) : Int) < 1) = false := decide_eq_false (by omega)
          by_cases h2 : 1000 < D.length
          · have hh : Hq (decide (Dec.bad D) = true) := hq (decide_eq_true (.inr (.inl h2)))
            have g2 : decide ((1000 : Int) < ((D.length : Nat) : Int)) = true := decide_eq_true (by omega)
            go_region
            all_goals go_wp2_with fail
            all_goals go_meet
            all_goals exact ⟨congrArg Value.bool hh.o.symm, hb.drew, hW⟩
          · have g2 : decide ((1000 : Int) < ((D.length : Nat) : Int)) = false := decide_eq_false (by omega)
            have hdl := nd_le D
            have hh : Hq (decide (Dec.bad D) = (((nd D : Nat) : Int) != ((D.length : Nat) : Int))) := hq (by
              cases hx : D.all isDig with
              | true => rw [(nd_len D).2 hx, decide_eq_false (fun h => h.elim (fun h => by omega) (fun h => h.elim (fun h => by omega) (fun h => by rw [hx] at h; cases h)))]; simp
              | false =>
                have hne : nd D ≠ D.length := fun h => by have := (nd_len D).1 h; rw [hx] at this; cases this
                rw [decide_eq_true (.inr (.inr hx))]; symm; rw [bne_iff_ne]; omega)
            generalize hn0 : nd D = n0 at *
            have HN0 := hq hn0
            clear hn0
            have hb2 := hb.drew
            go_region_with (go_at_call 143; refine (digits_any _ _ HZ.o).mono ?_; rw [st_list, HN0.o]; rintro e w1 ⟨rfl, hb1⟩; have hW1 : Whole w1 w.heap.size 122 #[.bool neg, .string (st D), .int .i64 E] := Whole.grow (by assumption) hb1; obtain ⟨c0, c1, c2⟩ := three_cells hW1; have hbx : Below w.heap.size w w1 := below_trans (by assumption) hb1)
            all_goals go_wp2_with fail
            all_goals go_meet
            all_goals exact ⟨congrArg Value.bool hh.o.symm, hbx, hW1⟩
      case rest =>
        clear hW hb c0 c1 c2
        obtain ⟨rfl, hb, hW⟩ := hcut
        obtain ⟨c0, c1, c2⟩ := three_cells hW
        by_cases hbad : Dec.bad D
        · have HF : Hq (R = false) := hq (by rw [HR2.o, if_pos hbad])
          rw [decide_eq_true hbad]
          clear HR2 hbad
          go_wp2_with fail
          go_ret
          exact ⟨by rw [HF.o]; rfl, hb⟩
        · have HR3 := hq (HR2.o.trans (if_neg hbad))
          rw [decide_eq_false hbad]
          have hp : 0 < D.length := by
            by_cases h : 0 < D.length
            · exact h
            · exact absurd (.inl (by omega)) hbad
          clear HR2 hbad
          have hz0 : 0 < (st D).size := by rw [st_size]; exact hp
          have hz1 : D.length - 1 < (st D).size := by rw [st_size]; omega
          have hno : Hq (Dec.nought0 D ↔ ((st D)[0]'hz0).toNat = 48 ∨ ((st D)[D.length - 1]'hz1).toNat = 48) := hq (by
            have h1 : D.head? = some D[0] := by rw [List.head?_eq_getElem?, List.getElem?_eq_getElem hp]
            have h2 : D.getLast? = some (D[D.length - 1]'(by omega)) := by rw [List.getLast?_eq_getElem?, List.getElem?_eq_getElem (by omega)]
            unfold Dec.nought0
            rw [h1, h2]
            have e1 : ((st D)[0]'hz0) = D[0] := rfl
            have e2 : ((st D)[D.length - 1]'hz1) = D[D.length - 1]'(by omega) := rfl
            rw [e1, e2]
            simp only [Option.some.injEq, ← UInt8.toNat_inj]
            rfl)
          generalize hx0 : ((st D)[0]'hz0).toNat = x0 at hno
          generalize hx1 : ((st D)[D.length - 1]'hz1).toNat = x1 at hno
          have hy0 : (((st D)[0]'hz0).toNat : Int) = (x0 : Int) := by rw [hx0]
          have hy1 : (((st D)[D.length - 1]'hz1).toNat : Int) = (x1 : Int) := by rw [hx1]
          clear hx0 hx1
          go_upto_region 5 with fail
          go_cut [38] (fun c wx => c = .bool (decide (Dec.nought0 D)) ∧ wx = wc)
          case first =>
            by_cases g0 : x0 = 48
            · have hh : Hq (decide (Dec.nought0 D) = true) := hq (decide_eq_true (hno.o.2 (.inl g0)))
              have e0 : ((x0 : Int) == 48) = true := by rw [g0]; rfl
              clear g0
              go_wp2_with fail
              go_meet
              exact ⟨congrArg Value.bool hh.o.symm, rfl⟩
            · have e0 : ((x0 : Int) == 48) = false := beq_eq_false_iff_ne.2 (by omega)
              by_cases g1 : x1 = 48
              · have hh : Hq (decide (Dec.nought0 D) = true) := hq (decide_eq_true (hno.o.2 (.inr g1)))
                have e1 : ((x1 : Int) == 48) = true := by rw [g1]; rfl
                clear g0 g1
                go_wp2_with fail
                go_meet
                exact ⟨congrArg Value.bool hh.o.symm, rfl⟩
              · have hh : Hq (decide (Dec.nought0 D) = false) := hq (decide_eq_false (fun h => (hno.o.1 h).elim g0 g1))
                have e1 : ((x1 : Int) == 48) = false := beq_eq_false_iff_ne.2 (by omega)
                clear g0 g1
                go_wp2_with fail
                go_meet
                exact ⟨congrArg Value.bool hh.o.symm, rfl⟩
          case rest =>
            obtain ⟨rfl, rfl⟩ := hcut
            by_cases hn : Dec.nought0 D
            · have HF : Hq (R = false) := hq (by rw [HR3.o, if_pos hn])
              rw [decide_eq_true hn]
              clear HR3 hn hno
              go_wp2_with fail
              go_ret
              exact ⟨by rw [HF.o]; rfl, hb⟩
            · have HR4 := hq (HR3.o.trans (if_neg hn))
              rw [decide_eq_false hn]
              clear HR3 hn hno
              by_cases g1 : -1000000 ≤ E
              · by_cases g2 : E ≤ 1000000
                · have HF : Hq (R = true) := hq (by rw [HR4.o]; exact decide_eq_true ⟨g1, g2⟩)
                  clear HR4
                  go_wp2_with fail
                  go_ret
                  exact ⟨by rw [HF.o]; rfl, hb⟩
                · have HF : Hq (R = false) := hq (by rw [HR4.o]; exact decide_eq_false (fun h => g2 h.2))
                  clear HR4
                  go_wp2_with fail
                  go_ret
                  exact ⟨by rw [HF.o]; rfl, hb⟩
              · have HF : Hq (R = false) := hq (by rw [HR4.o]; exact decide_eq_false (fun h => g1 h.1))
                clear HR4
                go_wp2_with fail
                go_ret
                exact ⟨by rw [HF.o]; rfl, hb⟩
end Go.Proofs.YtmomildkopainaaDoor

namespace Go.Proofs.YtmomildkopainaaDoor
open Go.RowKit

/-- what Parse answers: the number, the error -/
def parseM (l : Bs) : Dec × Int :=
  match splitM l with
  | none => (.zero, 2)
  | some p =>
    if 1000 < p.whole.length + p.frac.length then (.zero, 3)
    else if 9 < (stripL p.power).length then (.zero, 4)
    else if (numM p.neg p.whole p.frac p.down (stripL p.power)).right = true then (numM p.neg p.whole p.frac p.down (stripL p.power), 0) else (.zero, 4)
/-- what is known of a literal's parts -/
theorem numM_exp (neg : Bool) (whole frac : Bs) (down : Bool) (power : Bs) (hp : power.all isDig = true) (hl : power.length ≤ 9) (hw : whole.length + frac.length ≤ 1000) :
    (numM neg whole frac down power).digits.length ≤ 1000 ∧ -9223372036854775808 ≤ (numM neg whole frac down power).exp ∧ (numM neg whole frac down power).exp ≤ 9223372036854775807 := by
  have hb := numOf_le power hp hl
  have h1 := stripL_le (whole ++ frac)
  have h2 := stripR_le (stripL (whole ++ frac))
  rw [List.length_append] at h1
  unfold numM
  simp only
  split
  · simp [Dec.zero]
  · refine ⟨by simp only; omega, ?_, ?_⟩ <;> simp only <;> split <;> omega
theorem takeWhile_all (l : Bs) : (l.takeWhile isDig).all isDig = true := by
  induction l with
  | nil => rfl
  | cons c l ih =>
    rw [List.takeWhile_cons]
    split
    · rename_i h; rw [List.all_cons, h, ih]; rfl
    · rfl
theorem splitFin_power {p q : Parts} {d : Bool} {r : Bs} (h : splitFin p d r = some q) : q.power.all isDig = true ∧ q.whole = p.whole ∧ q.frac = p.frac := by
  unfold splitFin at h
  split at h
  · rename_i hh; injection h with h; subst h; exact ⟨hh.2, rfl, rfl⟩
  · cases h
theorem splitExp_power {p q : Parts} {l : Bs} (h : splitExp p l = some q) : q.power.all isDig = true ∧ q.whole = p.whole ∧ q.frac = p.frac := by
  unfold splitExp at h
  split at h <;> exact splitFin_power h
theorem splitTail_power {p q : Parts} {l : Bs} (hp : p.power.all isDig = true) (h : splitTail p l = some q) : q.power.all isDig = true ∧ q.whole = p.whole ∧ q.frac = p.frac := by
  cases l with
  | nil => unfold splitTail at h; injection h with h; subst h; exact ⟨hp, rfl, rfl⟩
  | cons c l =>
    have h : (if c = 101 ∨ c = 69 then splitExp p l else none) = some q := h
    split at h
    · exact splitExp_power h
    · cases h
theorem splitM_parts {l : Bs} {q : Parts} (h : splitM l = some q) : q.power.all isDig = true ∧ q.whole.all isDig = true ∧ q.frac.all isDig = true ∧ q.whole.length + q.frac.length ≤ l.length := by
  have key : ∀ (neg : Bool) (m : Bs), m.length ≤ l.length → splitWhole neg m = some q → q.power.all isDig = true ∧ q.whole.all isDig = true ∧ q.frac.all isDig = true ∧ q.whole.length + q.frac.length ≤ l.length := by
    intro neg m hm hs
    have hlen : (m.takeWhile isDig).length + (m.dropWhile isDig).length = m.length := by
      have := congrArg List.length (List.takeWhile_append_dropWhile (p := isDig) (l := m))
      rwa [List.length_append] at this
    unfold splitWhole at hs
    simp only at hs
    split at hs
    · cases hs
    · unfold splitFrac at hs
      split at hs
      · rename_i r hr
        have hlr : (m.dropWhile isDig).length = r.length + 1 := by rw [hr]; simp
        have hlen2 : (r.takeWhile isDig).length ≤ r.length := (List.takeWhile_prefix _).length_le
        split at hs
        · cases hs
        · obtain ⟨a, b, c⟩ := splitTail_power (by rfl) hs
          rw [b, c]
          exact ⟨a, takeWhile_all m, takeWhile_all r, by simp only; omega⟩
      · obtain ⟨a, b, c⟩ := splitTail_power (by rfl) hs
        rw [b, c]
        exact ⟨a, takeWhile_all m, rfl, by simp only [List.length_nil]; omega⟩
  unfold splitM at h
  split at h
  · exact key _ _ (by rw [List.length_tail]; omega) h
  · exact key _ _ (Nat.le_refl _) h
theorem stripL_all {l : Bs} (h : l.all isDig = true) : (stripL l).all isDig = true := by
  unfold stripL Lib.trimLeftB
  rw [List.all_eq_true] at *
  intro x hx
  exact h x ((List.dropWhile_suffix _).subset hx)

theorem set_three {w1 : World} {g : Nat} {t : TypeId} {x y z : Value} (hW : Whole w1 g t #[x, y, z]) (a b c : Value) (o : Obj) :
    Whole ((((w1.setCell ⟨g, 0, none⟩ a).setCell ⟨g, 1, none⟩ b).setCell ⟨g, 2, none⟩ c).alloc o) g t #[a, b, c] := by
  simpa using (((hW.put 0 a).put 1 b).put 2 c).alloc o

def ParsePost (R : Dec × Int) (w : World) (e : Ending) (w' : World) : Prop := e = .returned (.tuple #[R.1.val, .int .i64 R.2]) ∧ Below w.heap.size w w'

set_option maxHeartbeats 2000000 in
set_option maxRecDepth 1000000 in
theorem parse_any (s : ByteArray) (w : World) (hs : s.size ≤ 1099511627776) :
    Calls Tryd.prog 108 #[.string s] w (ParsePost (parseM s.data.toList) w) := by
  have HS : Hq (s.size ≤ maxLen) := hq (by unfold maxLen; omega)
  generalize hR : parseM s.data.toList = R
  have HR := hq hR
  clear hR
  go_enter Tryd.func108, Tryd.ntmps108
  go_wp2_with fail
  refine (split_any s _ HS.o).mono ?_
  generalize hP : splitM s.data.toList = P
  rintro e w1 ⟨⟨v, rfl, hv⟩, hb1⟩
  have hW := (Whole.made w 122 #[.bool false, .string (st []), .int .i64 0]).grow hb1
  have hb : Below w.heap.size w w1 := (below_alloc w (.cells #[.bool false, .string (st []), .int .i64 0] 122)).trans (hb1.mono (by rw [World.size_alloc]; omega))
  clear hb1
  obtain ⟨r0, r1, r2⟩ := three_cells hW
  have q0 := hW.free 0
  have q1 := hW.free 1
  have q2 := hW.free 2
  have hlt := hW.lt
  rcases hv with ⟨⟨neg, whole, frac, down, power⟩, rfl, rfl⟩ | ⟨rfl, ⟨neg, whole, frac, down, power⟩, rfl⟩
  · simp only [Parts.val]
    have HQ := hq (splitM_parts hP)
    simp only at HQ
    have hlen : whole.length + frac.length ≤ 1099511627776 := by have := HQ.o.2.2.2; rw [Array.length_toList] at this; exact Nat.le_trans this hs
    by_cases hk : 1000 < whole.length + frac.length
    · have HN : Hq (R = (.zero, 3)) := hq (by rw [← HR.o]; unfold parseM; rw [hP]; simp only [if_pos hk])
      clear HR hP HQ
      go_wp2_with fail
      refine bodyPost_ret (v := .tuple #[Dec.zero.val, .int .i64 3]) ?_ rfl ?_
      · obtain ⟨z0, z1, z2⟩ := three_cells (set_three hW (.bool false) (.string ⟨#[]⟩) (.int .i64 0) (.cells #[.bool neg, .string (st whole), .string (st frac), .bool down, .string (st power)] 169))
        simp [results, Tryd.results108, go_sem, z0, z1, z2, Dec.zero, Dec.val]
      · exact ⟨by rw [HN.o], (((hb.setCell (p := ⟨w.heap.size, 0, none⟩) (by simp) _).setCell (p := ⟨w.heap.size, 1, none⟩) (by simp) _).setCell (p := ⟨w.heap.size, 2, none⟩) (by simp) _).alloc (by simp; omega) _⟩
    · have HP2 : Hq (R = if 9 < (stripL power).length then (.zero, 4) else if (numM neg whole frac down (stripL power)).right = true then (numM neg whole frac down (stripL power), 0) else (.zero, 4)) := hq (by
        rw [← HR.o]; unfold parseM; rw [hP]; simp only [if_neg hk])
      clear HR hP
      have HA := hq (stripL_all HQ.o.1)
      clear HQ
      go_wp2_with fail
      refine (Tryd.strings_TrimLeft_one (st power) 48 (by decide) _).mono ?_
      rw [st_list, show Lib.trimLeftB power 48 = stripL power from rfl]
      generalize stripL power = PW at *
      rintro e w2 ⟨rfl, hw2⟩
      obtain rfl := hw2.symm
      by_cases h9 : 9 < PW.length
      · have HN : Hq (R = (.zero, 4)) := hq (by rw [HP2.o, if_pos h9])
        clear HP2
        go_wp2_with fail
        refine bodyPost_ret (v := .tuple #[Dec.zero.val, .int .i64 4]) ?_ rfl ?_
        · obtain ⟨z0, z1, z2⟩ := three_cells (set_three hW (.bool false) (.string ⟨#[]⟩) (.int .i64 0) (.cells #[.bool neg, .string (st whole), .string (st frac), .bool down, .string (st power)] 169))
          simp [results, Tryd.results108, go_sem, z0, z1, z2, Dec.zero, Dec.val]
        · exact ⟨by rw [HN.o], (((hb.setCell (p := ⟨w.heap.size, 0, none⟩) (by simp) _).setCell (p := ⟨w.heap.size, 1, none⟩) (by simp) _).setCell (p := ⟨w.heap.size, 2, none⟩) (by simp) _).alloc (by simp; omega) _⟩
      · have HP3 : Hq (R = if (numM neg whole frac down PW).right = true then (numM neg whole frac down PW, 0) else (.zero, 4)) := hq (by rw [HP2.o, if_neg h9])
        clear HP2
        have hex := numM_exp neg whole frac down PW HA.o (by omega) (by omega)
        go_wp2_with fail
        refine (number_any neg whole frac down _ PW _ HA.o (by omega) hlen).mono ?_
        generalize numM neg whole frac down PW = D at *
        rintro e w2 ⟨rfl, hb2⟩
        obtain ⟨dn, DD, DE⟩ := D
        simp only [Dec.val] at *
        have hW2 := (hW.alloc (.cells #[.bool neg, .string (st whole), .string (st frac), .bool down, .string (st power)] 169)).grow hb2
        have hb3 : Below w.heap.size w w2 := (hb.alloc (by omega) _).trans (hb2.mono (by rw [World.size_alloc]; omega))
        clear hb2
        go_wp2_with fail
        refine (right_any dn DD DE _ (by omega) hex.2).mono ?_
        generalize Dec.right ⟨dn, DD, DE⟩ = B at *
        rintro e w3 ⟨rfl, hbA⟩
        have hW3 := (hW2.alloc (.cells #[.bool dn, .string (st DD), .int .i64 DE] 122)).grow hbA
        have hN3 := (Whole.made w2 122 #[.bool dn, .string (st DD), .int .i64 DE]).grow hbA
        have hb4 : Below w.heap.size w w3 := (hb3.alloc (by have := hb3.size; omega) _).trans (hbA.mono (by rw [World.size_alloc]; have := hb3.size; omega))
        have hlt3 := hN3.lt
        have hlt2 := hb3.size
        clear hbA hb3 hW2 hex hb r0 r1 r2 q0 q1 q2 hW
        obtain ⟨r0, r1, r2⟩ := three_cells hW3
        obtain ⟨n0, n1, n2⟩ := three_cells hN3
        have q0 := hW3.free 0
        have q1 := hW3.free 1
        have q2 := hW3.free 2
        cases B with
        | true =>
          have HN : Hq (R = (⟨dn, DD, DE⟩, 0)) := hq (by rw [HP3.o, if_pos rfl])
          clear HP3
          go_wp2_with fail
          refine bodyPost_ret (v := .tuple #[(Dec.mk dn DD DE).val, .int .i64 0]) ?_ rfl ?_
          · obtain ⟨z0, z1, z2⟩ := three_cells (by simpa using (((hW3.put 0 (.bool dn)).put 1 (.string (st DD))).put 2 (.int .i64 DE)))
            simp [results, Tryd.results108, go_sem, z0, z1, z2, Dec.val]
          · exact ⟨by rw [HN.o], ((hb4.setCell (p := ⟨w.heap.size, 0, none⟩) (by simp) _).setCell (p := ⟨w.heap.size, 1, none⟩) (by simp) _).setCell (p := ⟨w.heap.size, 2, none⟩) (by simp) _⟩
        | false =>
          have HN : Hq (R = (.zero, 4)) := hq (by rw [HP3.o, if_neg (by simp)])
          clear HP3
          go_wp2_with fail
          refine bodyPost_ret (v := .tuple #[Dec.zero.val, .int .i64 4]) ?_ rfl ?_
          · simp [results, Tryd.results108, go_sem, r0, r1, r2, Dec.zero, Dec.val]
          · exact ⟨by rw [HN.o], ((hb4.setCell (p := ⟨w.heap.size, 0, none⟩) (by simp) _).setCell (p := ⟨w.heap.size, 1, none⟩) (by simp) _).setCell (p := ⟨w.heap.size, 2, none⟩) (by simp) _⟩
  · have HN : Hq (R = (.zero, 2)) := hq (by rw [← HR.o]; unfold parseM; rw [hP])
    clear HR hP
    simp only [Parts.val]
    go_wp2_with fail
    refine bodyPost_ret (v := .tuple #[Dec.zero.val, .int .i64 2]) ?_ rfl ?_
    · obtain ⟨z0, z1, z2⟩ := three_cells (set_three hW (.bool false) (.string ⟨#[]⟩) (.int .i64 0) (.cells #[.bool neg, .string (st whole), .string (st frac), .bool down, .string (st power)] 169))
      simp [results, Tryd.results108, go_sem, z0, z1, z2, Dec.zero, Dec.val]
    · exact ⟨by rw [HN.o], (((hb.setCell (p := ⟨w.heap.size, 0, none⟩) (by simp) _).setCell (p := ⟨w.heap.size, 1, none⟩) (by simp) _).setCell (p := ⟨w.heap.size, 2, none⟩) (by simp) _).alloc (by simp; omega) _⟩
end Go.Proofs.YtmomildkopainaaDoor
