/-
  WALKS: order.waiting.
-/
import Derived.Test.YtccdmoogjcgcfaaOrV
import Derived.Deep.RegionHeld3
import Derived.Deep.CutRange
import Derived.Laws.OwnMore
namespace Go.Proofs.Ytccdmoogjcgcfaa
open Go.RowKit Go.WideMaps Go.Maps

theorem sayM_anti (l : List Bs) (x y : Bs) : sayM l y x = - sayM l x y := by
  unfold sayM
  cases lastIx x l with
  | none => cases lastIx y l <;> rfl
  | some i =>
    cases lastIx y l with
    | none => rfl
    | some j =>
      simp only
      by_cases h1 : i < j
      · rw [if_pos h1, if_neg (by omega), if_pos h1]; rfl
      · by_cases h2 : j < i
        · rw [if_pos h2, if_neg h1, if_pos h2]
        · rw [if_neg h2, if_neg h1, if_neg h1, if_neg h2]; rfl
theorem aheadM_anti (lb ll lr : List Bs) (x y : Bs) : aheadM lb ll lr y x = (-(aheadM lb ll lr x y).1, (aheadM lb ll lr x y).2) := by
  unfold aheadM
  rw [sayM_anti lb x y, sayM_anti ll x y, sayM_anti lr x y]
  rcases sayM_cases lb x y with h | h | h <;> rcases sayM_cases ll x y with h' | h' | h' <;> rcases sayM_cases lr x y with h'' | h'' | h'' <;> rw [h, h', h''] <;> rfl
theorem aheadM_cases (lb ll lr : List Bs) (x y : Bs) : (aheadM lb ll lr x y).1 = -1 ∨ (aheadM lb ll lr x y).1 = 0 ∨ (aheadM lb ll lr x y).1 = 1 := by
  unfold aheadM
  rcases sayM_cases lb x y with h | h | h <;> rcases sayM_cases ll x y with h' | h' | h' <;> rcases sayM_cases lr x y with h'' | h'' | h'' <;> rw [h, h', h''] <;> decide
/-- does the name of one number stand ahead of that of another? -/
def befM (lb ll lr l : List Bs) (i j : Nat) : Bool := decide ((aheadM lb ll lr (l.getD i []) (l.getD j [])).1 = -1)
def okP (lb ll lr l : List Bs) (i j : Nat) : Bool := (aheadM lb ll lr (l.getD i []) (l.getD j [])).2
/-- do all names go together? -/
def okAll (lb ll lr l : List Bs) : Prop := ∀ i j, i < j → j < l.length → okP lb ll lr l i j = true
def WaitPost (lb ll lr l : List Bs) (w : World) (e : Ending) (w' : World) : Prop :=
  ((¬ okAll lb ll lr l ∧ e = .returned (.tuple #[.slice none 0 0, .slice none 0 0, .bool false])) ∨
    (okAll lb ll lr l ∧ ∃ B gW gB F, e = .returned (.tuple #[.slice (some ⟨gW, 0, none⟩) l.length l.length, .slice (some ⟨gB, 0, none⟩) l.length l.length, .bool true]) ∧ w.heap.size ≤ gW ∧ w.heap.size ≤ gB ∧
      Wst B w' gW gB l.length (fun k => ((fore l.length (befM lb ll lr l) l.length 0 k).length : Int)) F (aft l.length (befM lb ll lr l) l.length 0))) ∧ Below w.heap.size w w'

theorem infoI : (Try.prog.info? 3).map (fun i => (i.zero, i.size, i.bytes)) = some (some (.int .i64 0), 1, 8) := by kernel_rfl
theorem infoR : (Try.prog.info? 37).map (fun i => (i.zero, i.size, i.bytes)) = some (some (.slice none 0 0), 1, 24) := by kernel_rfl
theorem read_two {wr W w9 : World} {a c : Addr} {u v : Value} (h : Below wr.heap.size wr W ∧ W.cell? a = some u ∧ W.cell? c = some v) (hb : Below W.heap.size W w9) : Below wr.heap.size wr w9 ∧ w9.cell? a = some u ∧ w9.cell? c = some v :=
  ⟨below_trans h.1 hb, (hb.cell (cell_blk h.2.1)).trans h.2.1, (hb.cell (cell_blk h.2.2)).trans h.2.2⟩
theorem below_set' {B : Nat} {a w : World} (h : Below B a w) {g : Nat} (hg : B ≤ g) (i : Nat) (u : Value) : Below B a (w.setCell ⟨g, i, none⟩ u) := h.setCell (by simp only; exact hg) u
theorem made_map (z : Value) (n : Nat) : madeCells #[z] n = ((List.range n).map fun _ => z).toArray := by
  rw [← Array.toList_inj, toList_madeCells_one]
  simp [List.map_const']
theorem mk_ints (n : Nat) (hn : n ≤ 1000000) (W : World) : (Instr.makeSlice 37 (.int .i64 (n : Int)) (.int .i64 (n : Int))).run Try.prog W = .ok (.slice (some ⟨W.heap.size, 0, none⟩) n n) (W.alloc (.cells ((List.range n).map fun _ => Value.int .i64 0).toArray 3)) := by
  obtain ⟨i0, hi, hz0, hz1, hz2⟩ := info_parts infoI
  have h := run_make W 37 3 i0 (.int .i64 0) Try.underlying37 hi hz0 .i64 .i64 (n : Int) (n : Int) (by omega) (by omega) (by rw [hz2]; omega) (by omega)
  rw [hz1, Nat.mul_one, Int.toNat_natCast] at h
  rw [h, ← made_map]
  rfl
theorem mk_rows (n : Nat) (hn : n ≤ 1000000) (W : World) : (Instr.makeSlice 38 (.int .i64 (n : Int)) (.int .i64 (n : Int))).run Try.prog W = .ok (.slice (some ⟨W.heap.size, 0, none⟩) n n) (W.alloc (.cells ((List.range n).map fun _ => Value.slice none 0 0).toArray 37)) := by
  obtain ⟨i0, hi, hz0, hz1, hz2⟩ := info_parts infoR
  have h := run_make W 38 37 i0 (.slice none 0 0) Try.underlying38 hi hz0 .i64 .i64 (n : Int) (n : Int) (by omega) (by omega) (by rw [hz2]; omega) (by omega)
  rw [hz1, Nat.mul_one, Int.toNat_natCast] at h
  rw [h, ← made_map]
  rfl
/-- the two rows as they are made -/
theorem wst_start {w : World} {gW gB n : Nat} (hw : Whole w gW 3 ((List.range n).map fun _ => Value.int .i64 0).toArray) (hb : Whole w gB 37 ((List.range n).map fun _ => Value.slice none 0 0).toArray) (ne : gW ≠ gB) : Wst w.heap.size w gW gB n (fun _ => 0) (fun _ => .slice none 0 0) (fun _ => []) :=
  ⟨hw, hb, (fun _ _ => World.ownsRow_nil _ _ _ _), (fun _ _ _ _ _ _ h => by cases h), hw.lt, hb.lt, ne, Nat.le_refl _⟩

set_option maxHeartbeats 8000000 in
set_option maxRecDepth 1000000 in
theorem waiting_any (B : Nat) (v : Value) (ms : List Nat) (lb ll lr : List Bs) (r : SRow) (w : World) (h : MapsAt B w v ms [lb, ll, lr]) (hb : lb.length ≤ 9223372036854775807) (hl : ll.length ≤ 9223372036854775807) (hr : lr.length ≤ 9223372036854775807) (hok : r.ok w) (hs : Shorts r.l) (hn : r.l.length ≤ 256) :
    Calls Try.prog 21 #[v, r.v] w (WaitPost lb ll lr r.l w) := by
  obtain ⟨o, cap, l⟩ := r
  have HOK := hq hok
  have HS := hq hs
  have hlc := hok.le
  have hcp := hok.cp
  unfold maxLen at hcp
  simp only at hn hlc hcp
  have HAH := hq (fun (x y : Bs) (hx : x.length ≤ maxLen) (hy : y.length ≤ maxLen) W (hW : Below w.heap.size w W) => iahead_any B v ms lb ll lr x y W (h.grow hW) hb hl hr hx hy)
  have HP0 : Hq (¬ okAll lb ll lr l → ∀ w', Below w.heap.size w w' → WaitPost lb ll lr l w (.returned (.tuple #[.slice none 0 0, .slice none 0 0, .bool false])) w') := hq (fun h1 w' h2 => ⟨.inl ⟨h1, rfl⟩, h2⟩)
  have HP1 : Hq (okAll lb ll lr l → ∀ B gW gB F w', w.heap.size ≤ gW → w.heap.size ≤ gB → Wst B w' gW gB l.length (fun k => ((fore l.length (befM lb ll lr l) l.length 0 k).length : Int)) F (aft l.length (befM lb ll lr l) l.length 0) → Below w.heap.size w w' → WaitPost lb ll lr l w (.returned (.tuple #[.slice (some ⟨gW, 0, none⟩) l.length l.length, .slice (some ⟨gB, 0, none⟩) l.length l.length, .bool true])) w') := hq (fun h1 B gW gB F w' h2 h3 h4 h5 => ⟨.inr ⟨h1, B, gW, gB, F, rfl, h2, h3, h4⟩, h5⟩)
  generalize WaitPost lb ll lr l w = PP at *
  unfold SRow.v
  simp only
  clear h hok hs
  go_enter Try.func21, Try.ntmps21
  go_upto_region 1 with fail
  go_cut [7, 8] from 13 to 19 (fun a b wx => ∃ gW gB, a = .slice (some ⟨gW, 0, none⟩) l.length l.length ∧ b = .slice (some ⟨gB, 0, none⟩) l.length l.length ∧ w.heap.size ≤ gW ∧ w.heap.size ≤ gB ∧ Hq (Wst wx.heap.size wx gW gB l.length (fun _ => 0) (fun _ => .slice none 0 0) (fun _ => [])) ∧ Hq (Below w.heap.size w wx))
  case first =>
    have hm1 := mk_ints l.length (by omega)
    have hm2 := mk_rows l.length (by omega)
    have hb1 : ∀ (W : World) (a b : Obj), Below W.heap.size W ((W.alloc a).alloc b).drew := fun W a b => (((Below.refl _ _).alloc (Nat.le_refl _) a).alloc (by rw [World.size_alloc]; omega) b).drew
    have HB1 := hq hb1
    clear hb1 HAH HP0 HP1
    go_region
    all_goals
      go_wp2_with fail
      go_meet
    · refine ⟨w.heap.size, w.heap.size + 1, ?_, ?_, Nat.le_refl _, Nat.le_succ _, hq (wst_start ?_ ?_ (by omega)), hq (HB1.o _ _ _)⟩
      · first | rfl | simp
      · first | rfl | simp
      · exact (Whole.made w _ _).alloc _
      · have := Whole.made (w.alloc (.cells ((List.range l.length).map fun _ => Value.int .i64 0).toArray 3)) 37 ((List.range l.length).map fun _ => Value.slice none 0 0).toArray
        rw [World.size_alloc] at this
        exact this
    · refine ⟨w.heap.size + 1, w.heap.size, ?_, ?_, Nat.le_succ _, Nat.le_refl _, hq (wst_start ?_ ?_ (by omega)), hq (HB1.o _ _ _)⟩
      · first | rfl | simp
      · first | rfl | simp
      · have := Whole.made (w.alloc (.cells ((List.range l.length).map fun _ => Value.slice none 0 0).toArray 37)) 3 ((List.range l.length).map fun _ => Value.int .i64 0).toArray
        rw [World.size_alloc] at this
        exact this
      · exact (Whole.made w _ _).alloc _
  case rest =>
    obtain ⟨gW, gB, rfl, rfl, hgW, hgB, HST, HBC⟩ := hcut
    have HBL : Hq (∀ W F R wx, Wst wc.heap.size wx gW gB l.length W F R → ∀ b, wc.heap.size ≤ b → b ≠ gW ∧ b ≠ gB) := hq (fun W F R wx h b hb => ⟨fun e => by have := h.l1; omega, fun e => by have := h.l2; omega⟩)
    have HST0 : Hq (Wst wc.heap.size wc gW gB l.length (fun k => ((fore l.length (befM lb ll lr l) 0 0 k).length : Int)) (fun _ => .slice none 0 0) (aft l.length (befM lb ll lr l) 0 0)) := hq (by
      have e1 : (fun k => ((fore l.length (befM lb ll lr l) 0 0 k).length : Int)) = fun _ => 0 := by funext k; rw [fore_0]; rfl
      have e2 : aft l.length (befM lb ll lr l) 0 0 = fun _ => [] := by funext k; exact aft_0 k
      rw [e1, e2]
      exact HST.o)
    clear HST HBL
    have hBBw : w.heap.size ≤ wc.heap.size := HBC.o.size
    generalize wc.heap.size = BB at HST0 hBBw
    obtain ⟨i0, hi, hz0, hz1, hz2⟩ := info_parts infoI
    go_wp2_with fail
    go_loopw [21] (fun i wr => ∃ (J : Nat) (F : Nat → Value), J ≤ l.length ∧ i = .int .i64 (J : Int) ∧ Hq (Wst BB wr gW gB l.length (fun k => ((fore l.length (befM lb ll lr l) J 0 k).length : Int)) F (aft l.length (befM lb ll lr l) J 0)) ∧ Hq (∀ i j, i < j → j < J → okP lb ll lr l i j = true) ∧ Hq (Below w.heap.size w wr)) (fun i _ => l.length - (intOf i).toNat)
    case atStart => exact ⟨0, _, Nat.zero_le _, rfl, HST0, hq (fun i j _ h => absurd h (Nat.not_lt_zero _)), HBC⟩
    case round =>
      obtain ⟨J, F, hJ, rfl, hst, hokJ, hb0⟩ := hrel
      clear HST0 HBC
      by_cases hJl : J < l.length
      · have hJz : (J : Int) < (l.length : Int) := by omega
        clear HP1
        go_wp2_with fail
        go_loopw [25] (fun i wz => ∃ (I : Nat) (F : Nat → Value), I ≤ J ∧ i = .int .i64 (I : Int) ∧ Hq (Wst BB wz gW gB l.length (fun k => ((fore l.length (befM lb ll lr l) J I k).length : Int)) F (aft l.length (befM lb ll lr l) J I)) ∧ Hq (∀ i, i < I → okP lb ll lr l i J = true) ∧ Hq (Below w.heap.size w wz)) (fun i _ => J - (intOf i).toNat)
        case atStart => exact ⟨0, F, Nat.zero_le _, rfl, hst, hq (fun i h => absurd h (Nat.not_lt_zero _)), hb0⟩
        case round =>
          obtain ⟨I, F, hI, rfl, hst, hokI, hb⟩ := hrel
          clear hb0
          by_cases hIJ : I < J
          · have hIz : (I : Int) < (J : Int) := by omega
            have hIl : I < l.length := by omega
            have hIlz : (I : Int) < (l.length : Int) := by omega
            obtain ⟨b, f, rfl, hcell⟩ := HOK.o.rd I hIl
            obtain ⟨b', f', he, hcell'⟩ := HOK.o.rd J hJl
            simp only at hcell hcell' he
            obtain ⟨rfl, rfl⟩ : b = b' ∧ f = f' := by simpa using he
            have c0 := (hb.o.cell (cell_blk hcell)).trans hcell
            have c1 := (hb.o.cell (cell_blk hcell')).trans hcell'
            have HAX := hq (fun W (hW : Below w.heap.size w W) => HAH.o l[I] l[J] (HS.o l[I] (List.getElem_mem hIl)) (HS.o l[J] (List.getElem_mem hJl)) W hW)
            have HBF : Hq (befM lb ll lr l I J = decide ((aheadM lb ll lr l[I] l[J]).1 = -1) ∧ befM lb ll lr l J I = decide ((aheadM lb ll lr l[I] l[J]).1 = 1) ∧ okP lb ll lr l I J = (aheadM lb ll lr l[I] l[J]).2) := hq (by
              have g1 : l.getD I [] = l[I] := by simp [hIl]
              have g2 : l.getD J [] = l[J] := by simp [hJl]
              unfold befM okP
              rw [g1, g2, aheadM_anti lb ll lr l[I] l[J]]
              refine ⟨rfl, ?_, rfl⟩
              congr 1
              simp only [eq_iff_iff]
              omega)
            have HCS := hq (aheadM_cases lb ll lr l[I] l[J])
            unfold aheadV at HAX
            have hbw := hb.o.size
            clear hcell hcell' he
            generalize l[I] = x at *
            generalize l[J] = y at *
            generalize aheadM lb ll lr x y = p at *
            obtain ⟨p1, p2⟩ := p
            simp only at HAX HBF HCS
            go_upto_region 8 with fail
            have hcl := And.intro (Below.refl wr.heap.size wr).drew (And.intro c0 c1)
            go_region_held3 (fun W => Below wr.heap.size wr W ∧ W.cell? ⟨b, f + I, none⟩ = some (.string (st x)) ∧ W.cell? ⟨b, f + J, none⟩ = some (.string (st y)))
              (first | exact ⟨(Below.refl _ _).drew, c0, c1⟩ | exact hT2)
              ((go_at_call 17; refine (HAX.o _ (below_trans hb.o (And.left (by assumption)))).mono ?_; rintro e' w9 ⟨rfl, hb9⟩; have hT2 : Below wr.heap.size wr w9 ∧ w9.cell? ⟨b, f + I, none⟩ = some (.string (st x)) ∧ w9.cell? ⟨b, f + J, none⟩ = some (.string (st y)) := read_two (by assumption) hb9))
            have HST9 := hq (hst.o.grow hT2.1)
            have HB9 := hq (below_trans hb.o hT2.1)
            clear hT2 hcl hst hb c0 c1 HAX
            cases p2 with
            | false =>
              have HV := hq (HP0.o (fun hA => by
                have h1 := hA I J hIJ hJl
                rw [HBF.o.2.2] at h1
                cases h1) _ HB9.o)
              clear HP0 HBF HST9 HAH
              go_wp2_with fail
              go_ret3
              exact HV.o
            | true =>
              have HOK2 : Hq (∀ i, i < I + 1 → okP lb ll lr l i J = true) := hq (fun i hi => by
                by_cases e : i = I
                · rw [e]; exact HBF.o.2.2
                · exact hokI.o i (by omega))
              clear hokI
              rcases HCS.o with rfl | rfl | rfl
              · have HB1 : Hq (befM lb ll lr l I J = true) := hq (by rw [HBF.o.1]; rfl)
                have HB2 : Hq (befM lb ll lr l J I = false) := hq (by rw [HBF.o.2.1]; rfl)
                clear HCS
                have hX : I < l.length := hIl
                have hY : J < l.length := hJl
                have hown := HST9.o.own I hX
                obtain ⟨vb, vn, vc, hF⟩ := row_form hown
                have cB := HST9.o.cellB hX
                rw [hF] at hown cB
                have hal := aft_len (n := l.length) (bef := befM lb ll lr l) (J := J) (I := I) I
                have hfl := fore_len (n := l.length) (bef := befM lb ll lr l) (J := J) (I := I) J
                have HAF := hq (fun k => aft_1 (n := l.length) (bef := befM lb ll lr l) hIJ hJl HB1.o HB2.o k)
                have HFO := hq (fun k => fore_1 (n := l.length) (bef := befM lb ll lr l) hIJ hJl HB1.o HB2.o k)
                have HOW := hq hown
                have HFX := hq hF
                have hle9 := HST9.o.le
                clear hown hF HBF HP0 HAH HS HOK
                go_wp2_with (at_builtin; refine wpList_append_own_at _ rfl _ _ 37 rfl BB 3 i0 (.int .i64 0) 1 8 Try.underlying37 hi hz0 hz1 hz2 rfl (by decide) _ _ _ rfl (HOW.o.alloc _) ⟨w9.heap.size, 0, none⟩ 1 1 [.int .i64 (J : Int)] rfl rfl (cells_of_new _ [.int .i64 (J : Int)] _) (by simp [Value.oneCell']) (by unfold maxLen; omega) (by omega) (by rw [World.size_alloc]; omega) ?_)
                intro v' w10 hown10 hgrow10 _ hat10
                have hsta := HST9.o.grow (below_alloc w9 (.cells #[.int .i64 (J : Int)] 3))
                have HAP := hq (hsta.app (m := J) hX hown10 (by rw [HFX.o]; exact hgrow10) (by rw [HFX.o, World.size_alloc]; exact hat10))
                have hnb : some gB ≠ (Value.slice vb vn vc).ownBlock := fun e => by
                  have h1 := (HOW.o.lt gB e.symm).1
                  have h2 := HST9.o.l2
                  omega
                have hWB : Whole w10 gB 37 ((List.range l.length).map F).toArray := (hgrow10.block gB hsta.hb.lt hnb).trans hsta.hb
                have z0 : w10.cell? ⟨gB, I, none⟩ = some (.slice vb vn vc) := by rw [hWB.at_ I]; simp [hX, HFX.o]
                have z1 := hWB.free I
                have HBW10 := hq (HB9.o.alloc HB9.o.size (.cells #[.int .i64 (J : Int)] 3))
                have HB10 := hq (HBW10.o.grown hgrow10 HBW10.o.size (fun j ej => by have := (HOW.o.lt j ej).1; have := hBBw; omega))
                obtain ⟨ub, un, uc, rfl⟩ := row_form hown10
                have HSW := hq (HAP.o.putW J ((fore l.length (befM lb ll lr l) J I J).length + 1 : Int))
                have HB11 := hq (below_set' HB10.o hgB I (.slice ub un uc))
                have y0 := HAP.o.cellW hY
                have y1 := HAP.o.hw.free J
                clear hown10 hgrow10 hat10 hsta hnb hWB HOW cB HST9 HB9 HB10 HBW10
                go_upto_region 14 with fail
                clear z0 z1
                generalize w10.setCell ⟨gB, I, none⟩ (.slice ub un uc) = w11 at *
                generalize hfz : (fore l.length (befM lb ll lr l) J I J).length = fz at *
                have HFZ := hq hfz
                clear hfz
                have HB12 := hq (below_set' HB11.o hgW J (.int .i64 ((fz : Int) + 1)))
                go_wp2_with fail
                go_roundw
                case rel =>
                  refine ⟨I + 1, fun j => if j = I then .slice ub un uc else F j, hIJ, int_eq (by omega), hq ?_, HOK2, HB12⟩
                  have e1 : (fun k => ((fore l.length (befM lb ll lr l) J (I + 1) k).length : Int)) = fun j => if j = J then (fz : Int) + 1 else ((fore l.length (befM lb ll lr l) J I j).length : Int) := by
                    funext k
                    rw [HFO.o k]
                    by_cases hk : k = J
                    · rw [if_pos hk, if_pos hk, List.length_append, HFZ.o]; rfl
                    · rw [if_neg hk, if_neg hk]
                  have e2 : aft l.length (befM lb ll lr l) J (I + 1) = fun j => if j = I then aft l.length (befM lb ll lr l) J I I ++ [J] else aft l.length (befM lb ll lr l) J I j := by
                    funext k
                    exact HAF.o k
                  rw [e1, e2]
                  exact HSW.o
                case measure => simp [intOf]; omega
              · have HB1 : Hq (befM lb ll lr l I J = false) := hq (by rw [HBF.o.1]; rfl)
                have HB2 : Hq (befM lb ll lr l J I = false) := hq (by rw [HBF.o.2.1]; rfl)
                have e1 : (fun k => ((fore l.length (befM lb ll lr l) J (I + 1) k).length : Int)) = fun k => ((fore l.length (befM lb ll lr l) J I k).length : Int) := by
                  funext k
                  rw [fore_same hIJ HB1.o HB2.o]
                have e2 : aft l.length (befM lb ll lr l) J (I + 1) = aft l.length (befM lb ll lr l) J I := by
                  funext k
                  exact aft_same hIJ HB1.o HB2.o
                have HS9 : Hq (Wst BB w9 gW gB l.length (fun k => ((fore l.length (befM lb ll lr l) J (I + 1) k).length : Int)) F (aft l.length (befM lb ll lr l) J (I + 1))) := hq (by rw [e1, e2]; exact HST9.o)
                clear HCS e1 e2 HST9 HBF HP0 HAH
                go_wp2_with fail
                go_roundw
                case rel => exact ⟨I + 1, F, hIJ, int_eq (by omega), HS9, HOK2, HB9⟩
                case measure => simp [intOf]; omega
              · have HB1 : Hq (befM lb ll lr l I J = false) := hq (by rw [HBF.o.1]; rfl)
                have HB2 : Hq (befM lb ll lr l J I = true) := hq (by rw [HBF.o.2.1]; rfl)
                clear HCS
                have hX : J < l.length := hJl
                have hY : I < l.length := hIl
                have hown := HST9.o.own J hX
                obtain ⟨vb, vn, vc, hF⟩ := row_form hown
                have cB := HST9.o.cellB hX
                rw [hF] at hown cB
                have hal := aft_len (n := l.length) (bef := befM lb ll lr l) (J := J) (I := I) J
                have hfl := fore_len (n := l.length) (bef := befM lb ll lr l) (J := J) (I := I) I
                have HAF := hq (fun k => aft_2 (n := l.length) (bef := befM lb ll lr l) hIJ hJl HB1.o HB2.o k)
                have HFO := hq (fun k => fore_2 (n := l.length) (bef := befM lb ll lr l) hIJ hJl HB1.o HB2.o k)
                have HOW := hq hown
                have HFX := hq hF
                have hle9 := HST9.o.le
                clear hown hF HBF HP0 HAH HS HOK
                go_wp2_with (at_builtin; refine wpList_append_own_at _ rfl _ _ 37 rfl BB 3 i0 (.int .i64 0) 1 8 Try.underlying37 hi hz0 hz1 hz2 rfl (by decide) _ _ _ rfl (HOW.o.alloc _) ⟨w9.heap.size, 0, none⟩ 1 1 [.int .i64 (I : Int)] rfl rfl (cells_of_new _ [.int .i64 (I : Int)] _) (by simp [Value.oneCell']) (by unfold maxLen; omega) (by omega) (by rw [World.size_alloc]; omega) ?_)
                intro v' w10 hown10 hgrow10 _ hat10
                have hsta := HST9.o.grow (below_alloc w9 (.cells #[.int .i64 (I : Int)] 3))
                have HAP := hq (hsta.app (m := I) hX hown10 (by rw [HFX.o]; exact hgrow10) (by rw [HFX.o, World.size_alloc]; exact hat10))
                have hnb : some gB ≠ (Value.slice vb vn vc).ownBlock := fun e => by
                  have h1 := (HOW.o.lt gB e.symm).1
                  have h2 := HST9.o.l2
                  omega
                have hWB : Whole w10 gB 37 ((List.range l.length).map F).toArray := (hgrow10.block gB hsta.hb.lt hnb).trans hsta.hb
                have z0 : w10.cell? ⟨gB, J, none⟩ = some (.slice vb vn vc) := by rw [hWB.at_ J]; simp [hX, HFX.o]
                have z1 := hWB.free J
                have HBW10 := hq (HB9.o.alloc HB9.o.size (.cells #[.int .i64 (I : Int)] 3))
                have HB10 := hq (HBW10.o.grown hgrow10 HBW10.o.size (fun j ej => by have := (HOW.o.lt j ej).1; have := hBBw; omega))
                obtain ⟨ub, un, uc, rfl⟩ := row_form hown10
                have HSW := hq (HAP.o.putW I ((fore l.length (befM lb ll lr l) J I I).length + 1 : Int))
                have HB11 := hq (below_set' HB10.o hgB J (.slice ub un uc))
                have y0 := HAP.o.cellW hY
                have y1 := HAP.o.hw.free I
                clear hown10 hgrow10 hat10 hsta hnb hWB HOW cB HST9 HB9 HB10 HBW10
                go_upto_region 17 with fail
                clear z0 z1
                generalize w10.setCell ⟨gB, J, none⟩ (.slice ub un uc) = w11 at *
                generalize hfz : (fore l.length (befM lb ll lr l) J I I).length = fz at *
                have HFZ := hq hfz
                clear hfz
                have HB12 := hq (below_set' HB11.o hgW I (.int .i64 ((fz : Int) + 1)))
                go_wp2_with fail
                go_roundw
                case rel =>
                  refine ⟨I + 1, fun j => if j = J then .slice ub un uc else F j, hIJ, int_eq (by omega), hq ?_, HOK2, HB12⟩
                  have e1 : (fun k => ((fore l.length (befM lb ll lr l) J (I + 1) k).length : Int)) = fun j => if j = I then (fz : Int) + 1 else ((fore l.length (befM lb ll lr l) J I j).length : Int) := by
                    funext k
                    rw [HFO.o k]
                    by_cases hk : k = I
                    · rw [if_pos hk, if_pos hk, List.length_append, HFZ.o]; rfl
                    · rw [if_neg hk, if_neg hk]
                  have e2 : aft l.length (befM lb ll lr l) J (I + 1) = fun j => if j = J then aft l.length (befM lb ll lr l) J I J ++ [I] else aft l.length (befM lb ll lr l) J I j := by
                    funext k
                    exact HAF.o k
                  rw [e1, e2]
                  exact HSW.o
                case measure => simp [intOf]; omega
          · have hIz : ¬ (I : Int) < (J : Int) := by omega
            obtain rfl : I = J := by omega
            have e1 : (fun k => ((fore l.length (befM lb ll lr l) (I + 1) 0 k).length : Int)) = fun k => ((fore l.length (befM lb ll lr l) I I k).length : Int) := by
              funext k
              rw [fore_next]
            have e2 : aft l.length (befM lb ll lr l) (I + 1) 0 = aft l.length (befM lb ll lr l) I I := by
              funext k
              exact (aft_next k).symm
            have HS9 : Hq (Wst BB wr gW gB l.length (fun k => ((fore l.length (befM lb ll lr l) (I + 1) 0 k).length : Int)) F (aft l.length (befM lb ll lr l) (I + 1) 0)) := hq (by rw [e1, e2]; exact hst.o)
            have HOK2 : Hq (∀ i j, i < j → j < I + 1 → okP lb ll lr l i j = true) := hq (fun i j hij hj => by
              by_cases e : j = I
              · rw [e]; exact hokI.o i (by omega)
              · exact hokJ.o i j hij (by omega))
            clear e1 e2 hst hokI hokJ HP0 HAH
            go_wp2_with fail
            go_roundw
            case rel => exact ⟨I + 1, F, hJl, int_eq (by omega), HS9, HOK2, hb⟩
            case measure => simp [intOf]; omega
      · have hJz : ¬ (J : Int) < (l.length : Int) := by omega
        obtain rfl : J = l.length := by omega
        have HV := hq (HP1.o (fun i j hij hj => hokJ.o i j hij hj) BB gW gB F wr hgW hgB hst.o hb0.o)
        clear HP0 HP1 hst hokJ HAH
        go_wp2_with fail
        go_ret3
        exact HV.o
end Go.Proofs.Ytccdmoogjcgcfaa
