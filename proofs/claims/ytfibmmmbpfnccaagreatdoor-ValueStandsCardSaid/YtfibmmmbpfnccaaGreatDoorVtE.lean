/-
  WALK: the document's Equal of two trees.
-/
import Derived.Test.YtfibmmmbpfnccaaGreatDoorVtR
namespace Go.Proofs.YtfibmmmbpfnccaaGreatDoor
open Go.RowKit

theorem below_drawnR {B : Nat} {a w : World} (h : Below B a w) (n : Nat) : Below B a (w.drewN n) := ⟨h.os, h.tape, h.output, h.size, h.block⟩
def EqPost (a b : Vl) (w : World) (e : Ending) (w' : World) : Prop := ∃ v : Bool, e = .returned (.bool v) ∧ (v = true ↔ a = b) ∧ Below w.heap.size w w'
theorem two_boxes (w : World) (T : TypeId) (A B : Array Value) : Below w.heap.size w ((w.alloc (.cells A T)).alloc (.cells B T)) ∧ Whole ((w.alloc (.cells A T)).alloc (.cells B T)) w.heap.size T A ∧ Whole ((w.alloc (.cells A T)).alloc (.cells B T)) (w.heap.size + 1) T B := by
  have h1 := Whole.made (w.alloc (.cells A T)) T B
  rw [World.size_alloc] at h1
  exact ⟨(below_alloc w _).alloc (by rw [World.size_alloc]; omega) _, (Whole.made w T A).alloc _, h1⟩
theorem take_succ_eq {α β : Type} (f : α → β) {l l' : List α} {i : Nat} (h : i < l.length) (h' : i < l'.length) (e : (l.take i).map f = (l'.take i).map f) (e2 : f l[i] = f l'[i]) : (l.take (i + 1)).map f = (l'.take (i + 1)).map f := by
  rw [List.take_succ_eq_append_getElem h, List.take_succ_eq_append_getElem h', List.map_append, List.map_append, e]
  simp only [List.map_cons, List.map_nil, e2]
theorem ne_at {α β : Type} (f : α → β) {l l' : List α} {i : Nat} (h : i < l.length) (h' : i < l'.length) (e2 : f l[i] ≠ f l'[i]) : l.map f ≠ l'.map f := fun e => by
  have h1 : (l.map f)[i]? = (l'.map f)[i]? := by rw [e]
  rw [List.getElem?_map, List.getElem?_map, List.getElem?_eq_getElem h, List.getElem?_eq_getElem h'] at h1
  exact e2 (Option.some.inj h1)
set_option maxHeartbeats 8000000 in
set_option maxRecDepth 1000000 in
theorem equal_any : ∀ (x y : Vt) (w : World), x.Ok w → y.Ok w → Calls Tryz.prog 19 #[x.v, y.v] w (EqPost x.m y.m w) := Vt.ind (fun k t ks o c is ih y w hok hok' => by
  obtain ⟨ko, kc, kl⟩ := ks
  obtain ⟨k', t', ⟨ko', kc', kl'⟩, o', c', is'⟩ := y
  have hn := hok.hl
  have hc := hok.hc
  have hkl : kl.length ≤ kc := hok.hks.le
  have hkc : kc ≤ maxLen := hok.hks.cp
  have hn' := hok'.hl
  have hc' := hok'.hc
  have hkl' : kl'.length ≤ kc' := hok'.hks.le
  have hkc' : kc' ≤ maxLen := hok'.hks.cp
  unfold maxLen at hc hkc hc' hkc'
  rw [Vt.m_mk, Vt.m_mk, Vt.v_mk', Vt.v_mk']
  simp only
  have HF : Hq (∀ W', (k = k' → t = t' → kl = kl' → is.map Vt.m = is'.map Vt.m → False) → Below w.heap.size w W' → EqPost (.mk k t kl (is.map Vt.m)) (.mk k' t' kl' (is'.map Vt.m)) w (.returned (.bool false)) W') := hq (fun W' h h3 => ⟨false, rfl, ⟨fun h => (by cases h), fun e => by
    injection e with e1 e2 e3 e4
    exact (h e1 e2 e3 e4).elim⟩, h3⟩)
  have HP : Hq (∀ W', k = k' → t = t' → kl = kl' → is.map Vt.m = is'.map Vt.m → Below w.heap.size w W' → EqPost (.mk k t kl (is.map Vt.m)) (.mk k' t' kl' (is'.map Vt.m)) w (.returned (.bool true)) W') := hq (fun W' h1 h2 h3 h4 h5 => ⟨true, rfl, ⟨fun _ => by rw [h1, h2, h3, h4], fun _ => rfl⟩, h5⟩)
  have HIH := hq ih
  generalize EqPost (.mk k t kl (is.map Vt.m)) (.mk k' t' kl' (is'.map Vt.m)) w = PP at *
  obtain ⟨hb0, hw0, hw1⟩ := two_boxes w 25 #[.int .i64 k, .string (st t), .slice ko kl.length kc, .slice o is.length c] #[.int .i64 k', .string (st t'), .slice ko' kl'.length kc', .slice o' is'.length c']
  have HOK := hq (hok.grow hb0)
  have HOK' := hq (hok'.grow hb0)
  have HW0 := hq hw0
  have HW1 := hq hw1
  have HB0 := hq hb0
  clear hok hok' ih hb0 hw0 hw1
  go_enter Tryz.func19, Tryz.ntmps19
  go_upto_region 1 with fail
  generalize w.heap.size = g at HW0 HW1
  generalize ((w.alloc (.cells #[.int .i64 k, .string (st t), .slice ko kl.length kc, .slice o is.length c] 25)).alloc (.cells #[.int .i64 k', .string (st t'), .slice ko' kl'.length kc', .slice o' is'.length c'] 25)) = V0 at *
  have hVg := hq (fun wr (hb : Below V0.heap.size V0 wr) => four_cells (HW0.o.grow hb))
  have hVh := hq (fun wr (hb : Below V0.heap.size V0 wr) => four_cells (HW1.o.grow hb))
  obtain ⟨c0, c1, c2, c3⟩ := hVg.o V0 (Below.refl _ _)
  obtain ⟨d0, d1, d2, d3⟩ := hVh.o V0 (Below.refl _ _)
  by_cases hk : k = k'
  case neg =>
    have hz : (k != k') = true := bne_iff_ne.2 hk
    have HV := hq (HF.o V0 (fun h _ _ _ => hk h) HB0.o)
    clear HP HF HIH hk
    go_wp2_with fail
    exact HV.o
  by_cases ht : t = t'
  case neg =>
    have hz : (k != k') = false := by rw [bne, beq_iff_eq.2 hk]; rfl
    have hz2 : (t == t') = false := beq_eq_false_iff_ne.2 ht
    have HV := hq (HF.o V0 (fun _ h _ _ => ht h) HB0.o)
    clear HP HF HIH hk ht
    go_wp2_with fail
    exact HV.o
  by_cases hkll : kl.length = kl'.length
  case neg =>
    have hz : (k != k') = false := by rw [bne, beq_iff_eq.2 hk]; rfl
    have hz2 : (t == t') = true := beq_iff_eq.2 ht
    have hz3 : ((kl.length : Int) != (kl'.length : Int)) = true := bne_iff_ne.2 (by omega)
    have HV := hq (HF.o V0 (fun _ _ h _ => hkll (by rw [h])) HB0.o)
    clear HP HF HIH hk ht hkll
    go_wp2_with fail
    exact HV.o
  by_cases hill : is.length = is'.length
  case neg =>
    have hz : (k != k') = false := by rw [bne, beq_iff_eq.2 hk]; rfl
    have hz2 : (t == t') = true := beq_iff_eq.2 ht
    have hz3 : ((kl.length : Int) != (kl'.length : Int)) = false := by rw [bne, beq_iff_eq.2 (by omega)]; rfl
    have hz4 : ((is.length : Int) != (is'.length : Int)) = true := bne_iff_ne.2 (by omega)
    have HV := hq (HF.o V0 (fun _ _ _ h => hill (by have := congrArg List.length h; simpa using this)) HB0.o)
    clear HP HF HIH hk ht hkll hill
    go_wp2_with fail
    exact HV.o
  have hz : (k != k') = false := by rw [bne, beq_iff_eq.2 hk]; rfl
  have hz2 : (t == t') = true := beq_iff_eq.2 ht
  have hz3 : ((kl.length : Int) != (kl'.length : Int)) = false := by rw [bne, beq_iff_eq.2 (by omega)]; rfl
  have hz4 : ((is.length : Int) != (is'.length : Int)) = false := by rw [bne, beq_iff_eq.2 (by omega)]; rfl
  have HF1 := hq (fun W' (h : kl = kl' → is.map Vt.m = is'.map Vt.m → False) => HF.o W' (fun _ _ h3 h4 => h h3 h4))
  have HP1 := hq (fun W' => HP.o W' hk ht)
  have HKL := hq hkll
  have HIL := hq hill
  clear HP HF hk ht hkll hill
  go_wp2_with fail
  clear hz hz2 hz3 hz4 c0 c1 c2 c3 d0 d1 d2 d3
  go_loopw [5] (fun i wr => ∃ j : Nat, j ≤ kl.length ∧ i = .int .i64 (j : Int) ∧ Hq ((kl.take j).map id = (kl'.take j).map id) ∧ Hq (Below V0.heap.size V0 wr)) (fun i _ => kl.length - (intOf i).toNat)
  case atStart => exact ⟨0, Nat.zero_le _, rfl, hq rfl, hq (Below.refl _ _)⟩
  case round =>
    obtain ⟨j, hj, rfl, hp, hb⟩ := hrel
    obtain ⟨c0, c1, c2, c3⟩ := hVg.o wr hb.o
    obtain ⟨d0, d1, d2, d3⟩ := hVh.o wr hb.o
    by_cases h : j < kl.length
    · have h' : j < kl'.length := by have := HKL.o; omega
      have hzj : (j : Int) < (kl.length : Int) := by omega
      have hzj' : (j : Int) < (kl'.length : Int) := by omega
      obtain ⟨b, f, ho, i0⟩ := (HOK.o.grow hb.o).hks.rd j h
      obtain ⟨b', f', ho', i0'⟩ := (HOK'.o.grow hb.o).hks.rd j h'
      simp only at ho i0 ho' i0'
      have HN := hq (take_succ_eq id h h' hp.o)
      have HE := hq (@ne_at _ _ id kl kl' j h h')
      simp only [id] at HN HE
      clear hp
      generalize kl[j] = p at *
      generalize kl'[j] = q at *
      subst ho ho'
      by_cases hpq : p = q
      · have e1 : (p == q) = true := beq_iff_eq.2 hpq
        have HN2 := hq (HN.o hpq)
        have HD := hq (fun n => below_drawnR hb.o n)
        clear HN HE hpq HIH HF1 HP1
        go_wp2_with fail
        go_quiet (fail)
        go_wp2_with fail
        go_roundw
        case rel => exact ⟨j + 1, h, int_eq (by omega), HN2, hq (HD.o _)⟩
        case measure => simp [intOf]; omega
      · have e1 : (p == q) = false := beq_eq_false_iff_ne.2 hpq
        have HV := hq (fun n => HF1.o (wr.drewN n) (fun e _ => HE.o hpq (by rw [e])) (below_trans HB0.o (below_drawnR hb.o n)))
        clear HN HE hpq HIH HF1 HP1
        go_wp2_with fail
        go_quiet (fail)
        go_wp2_with fail
        exact HV.o _
    · have hzj : ¬ (j : Int) < (kl.length : Int) := by omega
      have HKE : Hq (kl = kl') := hq (by
        have h1 := hp.o
        rw [List.take_of_length_le (by omega), List.take_of_length_le (by have := HKL.o; omega)] at h1
        simpa using h1)
      clear hp
      go_wp2_with fail
      clear c0 c1 c2 c3 d0 d1 d2 d3
      obtain ⟨wq, hwq⟩ : ∃ wq, wq = wr := ⟨_, rfl⟩
      subst hwq
      have HBQ := hq hb.o
      go_loopw [6, 7] (fun i _ wr => ∃ j : Nat, j ≤ is.length ∧ i = .int .i64 (j : Int) ∧ Hq ((is.take j).map Vt.m = (is'.take j).map Vt.m) ∧ Hq (Below V0.heap.size V0 wr)) (fun i _ _ => is.length - (intOf i).toNat)
      case atStart => exact ⟨0, Nat.zero_le _, rfl, hq rfl, HBQ⟩
      case round =>
        obtain ⟨i, hi, rfl, hp, hb⟩ := hrel
        obtain ⟨c0, c1, c2, c3⟩ := hVg.o wr hb.o
        obtain ⟨d0, d1, d2, d3⟩ := hVh.o wr hb.o
        by_cases h : i < is.length
        · have h' : i < is'.length := by have := HIL.o; omega
          have hzi : (i : Int) < (is.length : Int) := by omega
          have hzi' : (i : Int) < (is'.length : Int) := by omega
          obtain ⟨b, f, ho, hia⟩ := (HOK.o.grow hb.o).at_ i h
          obtain ⟨b', f', ho', hib⟩ := (HOK'.o.grow hb.o).at_ i h'
          have HN := hq (take_succ_eq Vt.m h h' hp.o)
          have HE := hq (@ne_at _ _ Vt.m is is' i h h')
          have HC := hq (fun W (hbb : Below wr.heap.size wr W) => HIH.o is[i] (List.getElem_mem h) is'[i] W (((HOK.o.grow hb.o).item i h).grow hbb) (((HOK'.o.grow hb.o).item i h').grow hbb))
          clear hp HIH
          generalize is[i] = p at *
          generalize is'[i] = q at *
          subst ho ho'
          have HS := hq (fun V (hbb : Below wr.heap.size wr V) => (⟨hbb, (hVg.o V (below_trans hb.o hbb)).2.2.2, (hVh.o V (below_trans hb.o hbb)).2.2.2, (hia.grow hbb).c0, (hia.grow hbb).c1, (hia.grow hbb).c2, (hia.grow hbb).c3, (hib.grow hbb).c0, (hib.grow hbb).c1, (hib.grow hbb).c2, (hib.grow hbb).c3⟩ : Below wr.heap.size wr V ∧ V.cell? ⟨g, 3, none⟩ = some (.slice (some ⟨b, f, none⟩) is.length c) ∧ V.cell? ⟨g + 1, 3, none⟩ = some (.slice (some ⟨b', f', none⟩) is'.length c') ∧ V.cell? ⟨b, f + i * 4, none⟩ = some (.int .i64 p.k) ∧ V.cell? ⟨b, f + i * 4 + 1, none⟩ = some (.string (st p.t)) ∧ V.cell? ⟨b, f + i * 4 + 2, none⟩ = some p.ks.v ∧ V.cell? ⟨b, f + i * 4 + 3, none⟩ = some p.row ∧ V.cell? ⟨b', f' + i * 4, none⟩ = some (.int .i64 q.k) ∧ V.cell? ⟨b', f' + i * 4 + 1, none⟩ = some (.string (st q.t)) ∧ V.cell? ⟨b', f' + i * 4 + 2, none⟩ = some q.ks.v ∧ V.cell? ⟨b', f' + i * 4 + 3, none⟩ = some q.row))
          obtain ⟨a0, a1, a2, a3⟩ := hia
          obtain ⟨b0, b1, b2, b3⟩ := hib
          go_wp2_with fail
          go_region_held3 (fun V => Below wr.heap.size wr V ∧ V.cell? ⟨g, 3, none⟩ = some (.slice (some ⟨b, f, none⟩) is.length c) ∧ V.cell? ⟨g + 1, 3, none⟩ = some (.slice (some ⟨b', f', none⟩) is'.length c') ∧ V.cell? ⟨b, f + i * 4, none⟩ = some (.int .i64 p.k) ∧ V.cell? ⟨b, f + i * 4 + 1, none⟩ = some (.string (st p.t)) ∧ V.cell? ⟨b, f + i * 4 + 2, none⟩ = some p.ks.v ∧ V.cell? ⟨b, f + i * 4 + 3, none⟩ = some p.row ∧ V.cell? ⟨b', f' + i * 4, none⟩ = some (.int .i64 q.k) ∧ V.cell? ⟨b', f' + i * 4 + 1, none⟩ = some (.string (st q.t)) ∧ V.cell? ⟨b', f' + i * 4 + 2, none⟩ = some q.ks.v ∧ V.cell? ⟨b', f' + i * 4 + 3, none⟩ = some q.row)
            (first | exact HS.o _ ((Below.refl _ _).drew) | exact hT2)
            ((go_at_call 19; refine (HC.o _ (And.left (by assumption))).mono ?_; rintro e' w9 ⟨v, rfl, hv, hb9⟩; have hT2 := HS.o w9 (below_trans (And.left (by assumption)) hb9)))
          have HB2 := hq (below_trans hb.o hT2.1)
          clear hT2 HS HC a0 a1 a2 a3 b0 b1 b2 b3 c0 c1 c2 c3 d0 d1 d2 d3
          cases v with
          | true =>
            have HN2 := hq (HN.o (hv.1 rfl))
            clear HN HE hv HF1 HP1
            go_wp2_with fail
            go_roundw
            case rel => exact ⟨i + 1, h, int_eq (by omega), HN2, HB2⟩
            case measure => simp [intOf]; omega
          | false =>
            have HV := hq (HF1.o _ (fun _ => HE.o (fun e => by have := hv.2 e; cases this)) (below_trans HB0.o HB2.o))
            clear HN HE hv HF1 HP1
            go_wp2_with fail
            exact HV.o
        · have hzi : ¬ (i : Int) < (is.length : Int) := by omega
          have HV := hq (HP1.o wr HKE.o (by
            have h1 := hp.o
            rwa [List.take_of_length_le (by omega), List.take_of_length_le (by have := HIL.o; omega)] at h1) (below_trans HB0.o hb.o))
          clear HF1 HP1 HIH hp
          go_wp2_with fail
          exact HV.o)
end Go.Proofs.YtfibmmmbpfnccaaGreatDoor
