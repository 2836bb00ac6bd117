/-
  WALKS: json's reader: list: kids, commas between them, their pieces.
-/
import Derived.Test.YtmomildkopainaaDoorJsK
import Derived.Test.YtmomildkopainaaDoorRowMem
import Derived.Maps.AppendAt
namespace Go.Proofs.YtmomildkopainaaDoor
open Go.RowKit

theorem modify_set {α : Type} (l : List α) (k : Nat) (f : α → α) (h : k < l.length) : l.modify k f = l.set k (f l[k]) := by
  refine List.ext_getElem? fun i => ?_
  rw [List.getElem?_modify, List.getElem?_set]
  by_cases e : k = i
  · subst e
    simp [h]
  · simp [e]
theorem ns_upd (r : RS) (k : Nat) (x : NV) : (r.upd k x).ns = r.ns.set k x.n := by
  unfold RS.upd RS.ns
  exact List.map_set
theorem RS.ns_len (r : RS) : r.ns.length = r.nv.length := by unfold RS.ns; simp
theorem RS.ns_at (r : RS) {k : Nat} (h : k < r.nv.length) : r.ns[k]? = some r.nv[k].n := by unfold RS.ns; simp [h]
def closeV (x : NV) (b : Nat) : NV := { x with n := { x.n with b := b } }
def kidV (x : NV) (kid : Nat) (v : Value) : NV := { x with n := { x.n with kids := x.n.kids ++ [kid] }, k := v }
def pcV (x : NV) (pc : Nat × Nat) (v : Value) : NV := { x with n := { x.n with pcs := x.n.pcs ++ [pc] }, p := v }
theorem close_ns (r : RS) {k : Nat} (h : k < r.nv.length) (b : Nat) : (r.upd k (closeV r.nv[k] b)).ns = closeN r.ns k b := by
  rw [ns_upd]
  unfold closeN
  rw [modify_set _ _ _ (by rw [RS.ns_len]; exact h)]
  congr 1
  unfold RS.ns closeV
  simp
theorem Rd.close {w0 W : World} {g : Nat} {s : ByteArray} {r : RS} (h : Rd w0 g s r W) {k : Nat} (hk : k < r.nv.length) {gN cap : Nat} (hvN : r.vN = .slice (some ⟨gN, 0, none⟩) r.nv.length cap) (b : Nat) :
    Rd w0 g s (r.upd k (closeV r.nv[k] b)) (W.setCell ⟨gN, k * 7 + 2, none⟩ (.int .i64 (b : Int))) ∧ Fr (r.own g) ((r.upd k (closeV r.nv[k] b)).own g) W (W.setCell ⟨gN, k * 7 + 2, none⟩ (.int .i64 (b : Int))) :=
  h.upd hk hvN (by omega) (by simp [nodeC, closeV]) (World.grownBy.mk rfl rfl rfl (Nat.le_refl _) fun _ _ _ => rfl : W.grownBy W none) (.inl rfl) (h.kr k hk) (h.pr k hk) (.inl rfl) (.inl rfl) (h.kl k hk)
section
variable {v : List Tok → Nat × Nat → List JN → JRes} {ob : Bool} {z : Nat} {tx : Nat → Nat → Bs} {k f : Nat} {had : List Bs} {fr : Nat} {l : List Tok} {ns : List JN}
theorem loopM_kid {e : JErr} (h : kidM v ob z tx had l ns = .inl e) : loopM v ob z tx k (f + 1) had fr l ns = .inl e := by
  unfold loopM; rw [h]
theorem loopM_take {e : JErr} {had' : List Bs} {l1 : List Tok} {ns1 : List JN} (h : kidM v ob z tx had l ns = .inr (had', l1, ns1)) (h2 : takeM z 6 (jendM ob) l1 = .inl e) : loopM v ob z tx k (f + 1) had fr l ns = .inl e := by
  unfold loopM; rw [h]; simp only; rw [h2]
theorem loopM_end {had' : List Bs} {l1 r : List Tok} {ns1 : List JN} {t : Tok} (h : kidM v ob z tx had l ns = .inr (had', l1, ns1)) (h2 : takeM z 6 (jendM ob) l1 = .inr (t, r)) (h3 : t.1 = jendM ob) : loopM v ob z tx k (f + 1) had fr l ns = .inr (r, closeN (addN ns1 k ns.length (fr, t.2.1)) k t.2.2) := by
  unfold loopM; rw [h]; simp only; rw [h2]; simp only; rw [if_pos h3]
theorem loopM_more {had' : List Bs} {l1 r : List Tok} {ns1 : List JN} {t : Tok} (h : kidM v ob z tx had l ns = .inr (had', l1, ns1)) (h2 : takeM z 6 (jendM ob) l1 = .inr (t, r)) (h3 : t.1 ≠ jendM ob) : loopM v ob z tx k (f + 1) had fr l ns = loopM v ob z tx k f had' t.2.2 r (addN ns1 k ns.length (fr, t.2.1)) := by
  conv => lhs; unfold loopM
  rw [h]; simp only; rw [h2]; simp only; rw [if_neg h3]
end
/-- a node's cells, behind an append to its kids' or its pieces' row -/
theorem Rd.mid {w0 W W' : World} {g : Nat} {s : ByteArray} {r : RS} (h : Rd w0 g s r W) {k : Nat} (hk : k < r.nv.length) {gN cap : Nat} (hvN : r.vN = .slice (some ⟨gN, 0, none⟩) r.nv.length cap) {row : Option Nat} (hg : W.grownBy W' row) (hrow : row = r.nv[k].k.ownBlock ∨ row = r.nv[k].p.ownBlock) :
    (∀ j, j < 7 → W'.cell? ⟨gN, k * 7 + j, none⟩ = (nodeC r.nv[k])[j]?) ∧ ∀ o, W'.frozen? ⟨gN, o, none⟩ = false := by
  obtain ⟨gN', cap', hv', _, _, hf, hc⟩ := h.node hk
  rw [hvN] at hv'
  cases hv'
  have hb : W'.heap[gN]? = W.heap[gN]? := hg.block gN (h.nd.lt gN (by rw [hvN]; rfl)).2 fun e => by
    have hNo : r.vN.ownBlock = some gN := by rw [hvN]; rfl
    rcases hrow with e2 | e2
    · exact own_apart (h.kr k hk) h.nd (by decide) gN (e2.symm.trans e.symm) hNo
    · exact own_apart (h.pr k hk) h.nd (by decide) gN (e2.symm.trans e.symm) hNo
  exact ⟨fun j hj => (World.cell?_of_block (a := ⟨gN, k * 7 + j, none⟩) hb).trans (hc j hj), fun o => (World.frozen?_of_block (a := ⟨gN, o, none⟩) hb).trans (hf o)⟩
theorem upd_upd (r : RS) (k : Nat) (x y : NV) : (r.upd k x).upd k y = r.upd k y := by
  unfold RS.upd
  simp
theorem upd_get (r : RS) {k : Nat} (hk : k < r.nv.length) (x : NV) (hk' : k < (r.upd k x).nv.length) : (r.upd k x).nv[k]'hk' = x := List.getElem_set_self (l := r.nv) (by rw [List.length_set]; exact hk)
theorem upd_len (r : RS) (k : Nat) (x : NV) : (r.upd k x).nv.length = r.nv.length := List.length_set ..
theorem add_ns (r : RS) {k : Nat} (h : k < r.nv.length) (kid : Nat) (pc : Nat × Nat) (v v' : Value) : (r.upd k (pcV (kidV r.nv[k] kid v) pc v')).ns = addN r.ns k kid pc := by
  rw [ns_upd]
  unfold addN
  rw [modify_set _ _ _ (by rw [RS.ns_len]; exact h)]
  congr 1
  unfold RS.ns pcV kidV
  simp
theorem add_ns2 (r : RS) {k : Nat} (h : k < r.nv.length) (kid : Nat) (v : Value) (hk : k < (r.upd k (kidV r.nv[k] kid v)).nv.length) (pc : Nat × Nat) (v' : Value) : ((r.upd k (kidV r.nv[k] kid v)).upd k (pcV ((r.upd k (kidV r.nv[k] kid v)).nv[k]'hk) pc v')).ns = addN r.ns k kid pc := by
  rw [upd_get r h _ hk, upd_upd]
  exact add_ns r h kid pc v v'
/-- a kid more -/
theorem Rd.kid {w0 W W' : World} {g : Nat} {s : ByteArray} {r : RS} (h : Rd w0 g s r W) {k : Nat} (hk : k < r.nv.length) {gN cap : Nat} (hvN : r.vN = .slice (some ⟨gN, 0, none⟩) r.nv.length cap) {kid : Nat} {v' : Value} (hlt : r.nv[k].n.kids.length < r.nv.length)
    (hown : W'.ownsRow w0.heap.size 3 1 v' (r.nv[k].n.kids.length + 1) (kidC r.nv[k].n.kids ++ [.int .i64 (kid : Int)])) (hg : W.grownBy W' r.nv[k].k.ownBlock) (hat : v'.ownBlock = r.nv[k].k.ownBlock ∨ v'.ownBlock = some W.heap.size) :
    Rd w0 g s (r.upd k (kidV r.nv[k] kid v')) (W'.setCell ⟨gN, k * 7 + 5, none⟩ v') ∧ Fr (r.own g) ((r.upd k (kidV r.nv[k] kid v')).own g) W (W'.setCell ⟨gN, k * 7 + 5, none⟩ v') :=
  h.upd hk hvN (by omega) (by simp [nodeC, kidV]) hg (.inr (.inl ⟨rfl, rfl, rfl⟩)) (by
    have e1 : (kidV r.nv[k] kid v').n.kids.length = r.nv[k].n.kids.length + 1 := by simp [kidV]
    have e2 : kidC (kidV r.nv[k] kid v').n.kids = kidC r.nv[k].n.kids ++ [.int .i64 (kid : Int)] := by simp [kidC, kidV]
    rw [e1, e2]; exact hown) (row_kept (h.pr k hk) hg fun b e => own_apart (h.kr k hk) (h.pr k hk) (by decide) b e) hat (.inl rfl) ⟨by simp [kidV]; omega, (h.kl k hk).2⟩
/-- a piece more -/
theorem Rd.piece {w0 W W' : World} {g : Nat} {s : ByteArray} {r : RS} (h : Rd w0 g s r W) {k : Nat} (hk : k < r.nv.length) {gN cap : Nat} (hvN : r.vN = .slice (some ⟨gN, 0, none⟩) r.nv.length cap) {a b : Nat} {v' : Value} (hlt : r.nv[k].n.pcs.length < r.nv.length)
    (hown : W'.ownsRow w0.heap.size 49 2 v' (r.nv[k].n.pcs.length + 1) (pcC r.nv[k].n.pcs ++ [.int .i64 (a : Int), .int .i64 (b : Int)])) (hg : W.grownBy W' r.nv[k].p.ownBlock) (hat : v'.ownBlock = r.nv[k].p.ownBlock ∨ v'.ownBlock = some W.heap.size) :
    Rd w0 g s (r.upd k (pcV r.nv[k] (a, b) v')) (W'.setCell ⟨gN, k * 7 + 6, none⟩ v') ∧ Fr (r.own g) ((r.upd k (pcV r.nv[k] (a, b) v')).own g) W (W'.setCell ⟨gN, k * 7 + 6, none⟩ v') :=
  h.upd hk hvN (by omega) (by simp [nodeC, pcV]) hg (.inr (.inr ⟨rfl, rfl, rfl⟩)) (row_kept (h.kr k hk) hg fun b e => own_apart (h.pr k hk) (h.kr k hk) (by decide) b e) (by
    have e1 : (pcV r.nv[k] (a, b) v').n.pcs.length = r.nv[k].n.pcs.length + 1 := by simp [pcV]
    have e2 : pcC (pcV r.nv[k] (a, b) v').n.pcs = pcC r.nv[k].n.pcs ++ [.int .i64 (a : Int), .int .i64 (b : Int)] := by simp [pcC, pcV]
    rw [e1, e2]; exact hown) (.inl rfl) hat ⟨(h.kl k hk).1, by simp [pcV]; omega⟩
theorem infoI : (Tryd.prog.info? 3).map (fun i => (i.zero, i.size, i.bytes)) = some (some (.int .i64 0), 1, 8) := by kernel_rfl
theorem infoSp : (Tryd.prog.info? 49).map (fun i => (i.zero, i.size, i.bytes)) = some (some (.agg #[.int .i64 0, .int .i64 0]), 2, 16) := by kernel_rfl
/-- append to a row of the call's own, inside a region that draws -/
theorem step_at {ops : Array Oper} {o : Oper} {a : Act} {w : World} {K : Act → World → Prop} {Q : Exit → Act → World → Prop} {E : Prop} (hg : o.guard = none) (s x : Operand) (t : TypeId)
    (ho : o.op = .call { callee := .builtin .append, args := #[s, x], argTypes := #[t, t] })
    (base : Nat) (e : TypeId) (i : TypeInfo) (z : Value) (size bytes : Nat) (ht : Tryd.prog.underlying t = some (.slice e)) (hi : Tryd.prog.info? e = some i) (hz : i.zero = some z)
    (hsize : i.size = size) (hby : i.bytes = bytes) (hzs : z.cells.size = size) (hsz : 0 < size)
    (v : Value) (n : Nat) (xs : List Value) (hs : a.eval s = v) (hown : w.ownsRow base e size v n xs)
    (ad : Addr) (m c : Nat) (news : List Value) (hx : a.eval x = .slice (some ad) m c) (hl : news.length = m * size) (hnews : ∀ j u, news[j]? = some u → w.cell? (ad.add j) = some u) (h1 : ∀ u ∈ news, u.oneCell' = true)
    (h63 : n + m ≤ maxLen) (hbytes : (n + m) * bytes ≤ 140737488355328) (hbase : base ≤ w.heap.size)
    (h : ∀ v' w', w'.ownsRow base e size v' (n + m) (xs ++ news) → w.grownBy w' v.ownBlock → (v'.ownBlock = v.ownBlock ∨ v'.ownBlock = some w.heap.size) → K (a.put o.dst v') w') :
    if Region.wanted o (yielded ops a.tmps) = true then Oper.wp Tryd.prog o a w K Q else E := by
  rw [if_pos (by simp [Region.wanted, hg])]
  obtain ⟨v', w', hr, h2, h3, h4, h5⟩ := run_append_own_at (P := Tryd.prog) w base t o.type e i z size bytes ht hi hz hsize hby hzs hsz v n xs hown ad m c news hl hnews h1 h63 hbytes hbase
  unfold Oper.wp execOp
  simp only [ho, resolve, invoke, builtin, Sem.run_bind, Sem.run_pure, Result.andThen_ok, List.map_toArray, List.map_cons, List.map_nil, hs, hx, hr]
  exact h v' w' h2 h3 h5
theorem row_shape {w : World} {B e n size : Nat} {v : Value} {xs : List Value} (h : w.ownsRow B e size v n xs) : ∃ a c, v = .slice a n c := by
  rcases h.2 with ⟨rfl, rfl⟩ | ⟨g', cap', cur, rfl, _⟩
  · exact ⟨_, _, rfl⟩
  · exact ⟨_, _, rfl⟩
theorem row_shape1 {w : World} {B e n size : Nat} {v : Value} {xs : List Value} (h : w.ownsRow B e size v (n + 1) xs) : ∃ g c, v = .slice (some ⟨g, 0, none⟩) (n + 1) c := by
  rcases h.2 with ⟨_, h0⟩ | ⟨g', cap', cur, rfl, _⟩
  · omega
  · exact ⟨_, _, rfl⟩
theorem enter_arr (caps : Array Value) (w : World) : (callFunc 111 caps).run Tryd.prog w = .ok (.enter 111 caps) w := by kernel_rfl
theorem enter_obj (caps : Array Value) (w : World) : (callFunc 112 caps).run Tryd.prog w = .ok (.enter 112 caps) w := by kernel_rfl
set_option maxHeartbeats 4000000 in
set_option maxRecDepth 1000000 in
theorem jlist_any {w0 : World} {g : Nat} {s : ByteArray} {M : Nat → Prop} {J : RS → List Bs → World → Prop} {ob : Bool} {d F : Nat} {caps : Array Value} (hcf : ∀ w : World, (callFunc F caps).run Tryd.prog w = .ok (.enter F caps) w)
    (HO : ∀ r had W, Rd w0 g s r W → J r had W → Calls Tryd.prog F caps W (KidPost w0 g s M J ob d r had W))
    (HJ : ∀ r r' had W W', J r had W → Fr (r.own g) (r'.own g) W W' → r.nv.length ≤ r'.nv.length → J r' had W')
    {r : RS} {W : World} (h : Rd w0 g s r W) (hj : J r [] W) {k : Nat} (hk : k < r.nv.length) :
    Calls Tryd.prog 110 #[.pointer (some ⟨g, 0, none⟩), .int .i64 (k : Int), .int .i64 (jendM ob : Int), .func (.func F) #[] caps] W (ListPost w0 g s M ob d r k W) := by
  have HN := hq (jnext_any h)
  have HR := hq h
  have HJJ := hq hj
  obtain ⟨gN, cN, hvN, hcN, hmN, hfN, hnode⟩ := h.node hk
  have n2 : W.cell? ⟨gN, k * 7 + 2, none⟩ = some (.int .i64 (r.nv[k].n.b : Int)) := hnode 2 (by omega)
  have hc2 := h.cells.2.2.1
  rw [hvN] at hc2
  have hkz : (k : Int) < (r.nv.length : Int) := by omega
  have HPL : Hq (∀ wh er W' r', listM (valueM s.size (keyTx s) d) ob s.size (keyTx s) k (nbl r.ts) r.ns = .inl (wh, er) → Rd w0 g s r' W' → Fr (OM g M r) (OM g M r') W W' → r'.wh = (wh : Int) → r'.er = er → ListPost w0 g s M ob d r k W (.returned (.bool false)) W') := hq (fun wh er W' r' h1 h2 h3 h4 h5 => by unfold ListPost; rw [h1]; exact ⟨rfl, r', h2, h3, h4, h5⟩)
  have HPR : Hq (∀ l ns W' r', listM (valueM s.size (keyTx s) d) ob s.size (keyTx s) k (nbl r.ts) r.ns = .inr (l, ns) → Rd w0 g s r' W' → Fr (OM g M r) (OM g M r') W W' → nbl r'.ts = l → r'.ns = ns → ListPost w0 g s M ob d r k W (.returned (.bool true)) W') := hq (fun l ns W' r' h1 h2 h3 h4 h5 => by unfold ListPost; rw [h1]; exact ⟨rfl, r', h2, h3, h4, h5⟩)
  generalize hPP : ListPost w0 g s M ob d r k W = PP at *
  have HLM : Hq (listM (valueM s.size (keyTx s) d) ob s.size (keyTx s) k (nbl r.ts) r.ns = if ((nbl r.ts).head?).map (fun t => t.1) = some (jendM ob) then .inr ((nbl r.ts).tail, closeN r.ns k (((nbl r.ts).head?.map fun t => t.2.2).getD 0)) else loopM (valueM s.size (keyTx s) d) ob s.size (keyTx s) k ((nbl r.ts).length + 1) [] (toN r.ns k) (nbl r.ts) r.ns) := hq rfl
  have HTO : Hq (toN r.ns k = r.nv[k].n.b) := hq (by unfold toN; rw [r.ns_at hk]; rfl)
  generalize listM (valueM s.size (keyTx s) d) ob s.size (keyTx s) k (nbl r.ts) r.ns = R at *
  generalize hb0 : r.nv[k].n.b = b0 at *
  generalize toN r.ns k = t0 at *
  have hne : jendM ob ≠ 1 := by cases ob <;> decide
  obtain ⟨en, hend⟩ : ∃ en, jendM ob = en := ⟨_, rfl⟩
  rw [hend] at hne HLM ⊢
  have HEN := hq hend
  clear hPP h hj hnode hb0 hend
  obtain rfl := HTO.o
  go_enter Tryd.func110, Tryd.ntmps110
  go_wp2_with fail
  refine HN.o.mono ?_
  rintro e W2 ⟨ts, o, cap, rfl, hR, hF, hnb, hst⟩
  have HR2 := hq hR
  have HF2 := hq hF
  have HNB := hq hnb
  clear hR hF hnb HN hc2 n2 hfN
  by_cases hen : ((nbl r.ts).head?).map (fun t => t.1) = some en
  · obtain ⟨t, l, rfl, ht⟩ : ∃ t l, ts = t :: l ∧ t.1 = en := by
      rcases hst with rfl | ⟨t, l, rfl, ht⟩
      · rw [← HNB.o] at hen; cases hen
      · refine ⟨t, l, rfl, ?_⟩
        rw [← HNB.o, nbl_cons, if_neg ht] at hen
        simpa using hen
    obtain ⟨kd, ta, tb⟩ := t
    simp only at ht
    subst ht
    unfold nextV
    dsimp only
    have HNB2 : Hq (nbl r.ts = (kd, ta, tb) :: nbl l) := hq (by rw [← HNB.o, nbl_cons, if_neg hne])
    have HW3 := hq (HR2.o.grow (below_alloc W2 (.cells #[.int .i64 (kd : Int), .int .i64 (ta : Int), .int .i64 (tb : Int)] 61)))
    have HF3 := hq (HF2.o.trans (Fr.of_below _ (below_alloc W2 (.cells #[.int .i64 (kd : Int), .int .i64 (ta : Int), .int .i64 (tb : Int)] 61))))
    have HB3 : Hq (Lo (r.own g) (W2.alloc (.cells #[.int .i64 (kd : Int), .int .i64 (ta : Int), .int .i64 (tb : Int)] 61)) W2.heap.size 61 #[.int .i64 (kd : Int), .int .i64 (ta : Int), .int .i64 (tb : Int)]) := hq (Lo.new (fun k hk => (HR2.o.own_lt k hk).2) _ _)
    have x0 := HB3.o.at_.at_ 0
    obtain ⟨b, f, A, ho, hA, hcap, hR4⟩ := HW3.o.tail
    subst ho
    have hc1 := HW3.o.cells.2.1
    have hcf := HW3.o.cells.2.2.2.2.2
    simp only [RS.at, List.length_cons] at hc1
    obtain ⟨m, hm⟩ : ∃ m, m = l.length + 1 := ⟨_, rfl⟩
    rw [← hm] at hc1 hcap
    have hm0 : 0 < m := by omega
    have hmz : (0 : Int) < (m : Int) := by omega
    have hm1 : 1 ≤ m := by omega
    have hml : m - 1 = l.length := by omega
    have hfr := Fr.put r g (W2.alloc (.cells #[.int .i64 (kd : Int), .int .i64 (ta : Int), .int .i64 (tb : Int)] 61)) 1 (.slice A l.length (cap - 1))
    have HB4 := hq (HB3.o.step hfr)
    have HF4 := hq (HF3.o.trans hfr)
    have y2 := HB4.o.at_.at_ 2
    have hvN' : (r.at l A (cap - 1)).vN = .slice (some ⟨gN, 0, none⟩) (r.at l A (cap - 1)).nv.length cN := hvN
    have d2 := hR4.cells.2.2.1
    rw [hvN'] at d2
    obtain ⟨gN', cN', hvN2, _, _, hfN, hnode⟩ := hR4.node (show k < (r.at l A (cap - 1)).nv.length from hk)
    rw [hvN'] at hvN2
    cases hvN2
    have n2 := hnode 2 (by omega)
    simp only [nodeC, List.getElem?_cons_succ, List.getElem?_cons_zero] at n2
    have hlk : (r.at l A (cap - 1)).nv.length = r.nv.length := rfl
    rw [hlk] at d2
    have hR5 := (hR4.grow (Below.refl _ _).drew).close (show k < (r.at l A (cap - 1)).nv.length from hk) hvN' tb
    have HV := hq (HPR.o (nbl l) (closeN r.ns k tb) _ _ (by rw [HLM.o, if_pos hen, HNB2.o]; rfl) hR5.1 (((HF4.o.trans (Fr.of_below _ (Below.refl _ _).drew)).trans hR5.2).om) rfl (close_ns (r.at l A (cap - 1)) (show k < (r.at l A (cap - 1)).nv.length from hk) tb))
    clear hR5 HR2 HF2 HNB hnode hR4 hfr HB3 HB4 HF4 HW3 HF3 HPL HPR HLM hm
    go_wp2_with fail
    go_region
    all_goals
      go_wp2_with fail
      exact HV.o
  · have hlp : ∀ W3 r3, Rd w0 g s r3 W3 → Fr (r.own g) (r3.own g) W W3 → nbl r3.ts = nbl r.ts → r3.nv = r.nv → True := fun _ _ _ _ _ _ => trivial
    rcases hst with rfl | ⟨t, l, rfl, ht⟩
    · unfold nextV
      dsimp only
      obtain ⟨r3, hr3, hns3, hnb3⟩ : ∃ r3, r3 = r.at [] o cap ∧ r3.nv = r.nv ∧ nbl r3.ts = nbl r.ts := ⟨_, rfl, rfl, HNB.o⟩
      rw [← hr3] at HR2
      have HF2' : Hq (Fr (r.own g) (r3.own g) W W2) := hq (by rw [hr3]; exact HF2.o)
      have HW3 := hq (HR2.o.grow (below_alloc W2 (.cells #[.int .i64 0, .int .i64 0, .int .i64 0] 61)))
      have HF3 := hq (HF2'.o.trans (Fr.of_below _ (below_alloc W2 (.cells #[.int .i64 0, .int .i64 0, .int .i64 0] 61))))
      have HNB3 := hq hnb3
      have HNS3 := hq hns3
      clear hr3 hnb3 hns3 HR2 HF2 HF2' HNB hlp
      go_wp2_with fail
      go_loopg [9] ((nbl r.ts).length + 1) (fun gk frv wr => ∃ r4 had fr, frv = .int .i64 ((fr : Nat) : Int) ∧ k < r4.nv.length ∧ (nbl r4.ts).length < gk ∧ Hq (Rd w0 g s r4 wr) ∧ Hq (J r4 had wr) ∧ Hq (Fr (OM g M r) (OM g M r4) W wr) ∧ Hq (R = loopM (valueM s.size (keyTx s) d) ob s.size (keyTx s) k gk had fr (nbl r4.ts) r4.ns))
      case atStart =>
        refine ⟨r3, [], t0, rfl, by rw [HNS3.o]; exact hk, by rw [HNB3.o]; omega, HW3, hq (HJ _ _ _ _ _ HJJ.o HF3.o (Nat.le_of_eq (by rw [HNS3.o]))), hq HF3.o.om, hq ?_⟩
        have hns : r3.ns = r.ns := by unfold RS.ns; rw [HNS3.o]
        rw [HLM.o, if_neg hen, HNB3.o, hns]
      case round =>
        obtain ⟨r4, had, fr, rfl, hk4, hlt, hR4, hJ4, hF4, hRR⟩ := hrel
        obtain ⟨f, rfl⟩ : ∃ f, gk = f + 1 := ⟨gk - 1, by omega⟩
        have HC := hq (HO r4 had wr hR4.o hJ4.o)
        unfold KidPost at HC
        cases hkid : kidM (valueM s.size (keyTx s) d) ob s.size (keyTx s) had (nbl r4.ts) r4.ns with
        | inl e =>
          obtain ⟨wh, er⟩ := e
          rw [hkid] at HC
          simp only at HC
          have HRR : Hq (R = .inl (wh, er)) := hq (hRR.o.trans (loopM_kid hkid))
          clear hkid hRR HW3 HF3 HLM
          go_wp2_with fail
          refine HC.o.mono ?_
          rintro e W5 ⟨⟨q, rfl⟩, r5, hR5, hF5, hwh, her⟩
          have HV := hq (HPL.o wh er W5 r5 HRR.o hR5 (hF4.o.trans hF5) hwh her)
          clear hR5 hF5 hwh her
          go_wp2_with fail
          exact HV.o
        | inr p =>
          obtain ⟨had', l1, ns1⟩ := p
          rw [hkid] at HC
          simp only at HC
          have HX := hq (kidM_ext (valueM_ext s.size (keyTx s) d) hkid)
          have HKID := hq hkid
          clear hkid HW3 HF3 HLM
          go_wp2_with fail
          refine HC.o.mono ?_
          rintro e W5 ⟨rfl, r5, hR5, hJ5, hF5, hts5, hns5⟩
          have HR5 := hq hR5
          have HT := hq (jtake_any hR5 6 en)
          have HJ5 := hq hJ5
          have HF5 := hq (hF4.o.trans hF5)
          have HNS5 := hq hns5
          unfold TakePost at HT
          rw [hts5] at HT
          clear hR5 hJ5 hF5 hts5 hns5 HC
          cases htk : takeM s.size 6 en l1 with
          | inl e =>
            obtain ⟨wh, er⟩ := e
            rw [htk] at HT
            simp only at HT
            have HRR : Hq (R = .inl (wh, er)) := hq (hRR.o.trans (loopM_take HKID.o (by rw [HEN.o]; exact htk)))
            clear htk hRR
            go_wp2_with fail
            refine HT.o.mono ?_
            rintro e W6 ⟨rfl, ⟨ts6, o6, cap6, hR6⟩, hF6⟩
            have HV := hq (HPL.o wh er _ _ HRR.o (hR6.grow (below_alloc W6 (.cells #[.int .i64 0, .int .i64 0, .int .i64 0] 61))) ((HF5.o.trans hF6.om).trans (Fr.of_below _ (below_alloc W6 _))) rfl rfl)
            unfold zeroA
            clear hR6 hF6
            go_wp2_with fail
            exact HV.o
          | inr p =>
            obtain ⟨⟨kd6, ta6, tb6⟩, l2⟩ := p
            rw [htk] at HT
            simp only at HT
            have HTK : Hq (takeM s.size 6 (jendM ob) l1 = .inr ((kd6, ta6, tb6), l2)) := hq (by rw [HEN.o]; exact htk)
            have HTL := hq (takeM_inr htk)
            clear htk
            go_wp2_with fail
            refine HT.o.mono ?_
            rintro e W6 ⟨rfl, _, ⟨ts6, o6, cap6, hR6, hts6⟩, hF6⟩
            have hl5 : r4.nv.length < r5.nv.length := by
              have h1 := HX.o.ln
              rw [← HNS5.o, RS.ns_len, RS.ns_len] at h1
              exact h1
            have hkl := hR4.o.kl k hk4
            have hnk : r5.nv[k].n = r4.nv[k].n := by
              have h1 := HX.o.at_ k (by rw [RS.ns_len]; exact hk4)
              rw [← HNS5.o, RS.ns_at _ (Nat.lt_trans hk4 hl5), RS.ns_at _ hk4] at h1
              exact Option.some.inj h1
            obtain ⟨r6, hk6, HR7, HF7, HB7, HJ7, HNS6, hkl1, hkl2, hts7⟩ : ∃ r6 : RS, ∃ hk6 : k < r6.nv.length, Hq (Rd w0 g s r6 (W6.alloc (.cells #[.int .i64 (kd6 : Int), .int .i64 (ta6 : Int), .int .i64 (tb6 : Int)] 61))) ∧ Hq (Fr (OM g M r) (OM g M r6) W (W6.alloc (.cells #[.int .i64 (kd6 : Int), .int .i64 (ta6 : Int), .int .i64 (tb6 : Int)] 61))) ∧
                Hq (Lo (r6.own g) (W6.alloc (.cells #[.int .i64 (kd6 : Int), .int .i64 (ta6 : Int), .int .i64 (tb6 : Int)] 61)) W6.heap.size 61 #[.int .i64 (kd6 : Int), .int .i64 (ta6 : Int), .int .i64 (tb6 : Int)]) ∧ Hq (J r6 had' (W6.alloc (.cells #[.int .i64 (kd6 : Int), .int .i64 (ta6 : Int), .int .i64 (tb6 : Int)] 61))) ∧ Hq (r6.ns = ns1) ∧ r6.nv[k].n.kids.length < r6.nv.length ∧ r6.nv[k].n.pcs.length < r6.nv.length ∧ Hq (nbl r6.ts = l2) :=
              ⟨r5.at ts6 o6 cap6, Nat.lt_trans hk4 hl5, hq (hR6.grow (below_alloc W6 _)), hq ((HF5.o.trans hF6.om).trans (Fr.of_below _ (below_alloc W6 _))), hq (Lo.new (fun k hk => (hR6.own_lt k hk).2) _ _), hq (HJ _ (r5.at ts6 o6 cap6) _ _ _ HJ5.o (hF6.trans (Fr.of_below _ (below_alloc W6 _))) (Nat.le_refl _)), HNS5,
                by show r5.nv[k].n.kids.length < r5.nv.length; rw [hnk]; omega, by show r5.nv[k].n.pcs.length < r5.nv.length; rw [hnk]; omega, hq hts6⟩
            clear hnk hkl hR6 hF6 hts6 HR5 HJ5 HF5 HNS5 HT hl5
            obtain ⟨gM, cM, hvM, _, _, hfM, hnodeM⟩ := HR7.o.node hk6
            have d2 := HR7.o.cells.2.2.1
            rw [hvM] at d2
            have hkz6 : (k : Int) < (r6.nv.length : Int) := by omega
            have m5 := hnodeM 5 (by omega)
            simp only [nodeC, List.getElem?_cons_succ, List.getElem?_cons_zero] at m5
            have hKR := HR7.o.kr k hk6
            obtain ⟨ka, kc, hKv⟩ := row_shape hKR
            have hn4 := HR7.o.n4
            rw [hKv] at m5
            have HVM := hq hvM
            clear hnodeM hvM
            unfold tokA
            dsimp only
            go_upto_region 13 with fail
            generalize hW7 : W6.alloc (.cells #[.int .i64 (kd6 : Int), .int .i64 (ta6 : Int), .int .i64 (tb6 : Int)] 61) = W7 at *
            generalize W6.heap.size = b6 at *
            clear hW7
            have x0 := HB7.o.at_.at_ 0
            have hKR2 : W7.ownsRow w0.heap.size 3 1 (.slice ka r6.nv[k].n.kids.length kc) r6.nv[k].n.kids.length (kidC r6.nv[k].n.kids) := by rw [← hKv]; exact hKR
            have HKV := hq hKv
            have hww : w0.heap.size ≤ W7.heap.size := HR7.o.bl.size
            obtain ⟨i0, hi0, hz0, hz1, hz2⟩ := info_parts infoI
            clear hKv hKR
            go_wp2_with (at_builtin; refine wpList_append_own_at _ rfl _ _ 50 rfl w0.heap.size 3 i0 (.int .i64 0) 1 8 Tryd.underlying50 hi0 hz0 hz1 hz2 rfl (by decide) _ _ _ rfl (hKR2.alloc _) ⟨W7.heap.size, 0, none⟩ 1 1 [.int .i64 (r4.nv.length : Int)] rfl rfl (cells_of_new _ [.int .i64 (r4.nv.length : Int)] _) (by simp [Value.oneCell']) (by unfold maxLen; omega) (by omega) (by rw [World.size_alloc]; omega) ?_)
            intro v' W9 hown9 hgrow9 _ hat9
            obtain ⟨g9, c9, rfl⟩ := row_shape1 hown9
            have hR8 := HR7.o.grow (below_alloc W7 (.cells #[.int .i64 (r4.nv.length : Int)] 3))
            have hgrow9' : (W7.alloc (.cells #[.int .i64 (r4.nv.length : Int)] 3)).grownBy W9 r6.nv[k].k.ownBlock := by rw [HKV.o]; exact hgrow9
            have hkid := hR8.kid hk6 HVM.o hkl1 hown9 hgrow9' (by rw [HKV.o, World.size_alloc]; exact hat9)
            obtain ⟨hm9, hf9⟩ := hR8.mid hk6 HVM.o hgrow9' (.inl rfl)
            have m59 := hm9 5 (by omega)
            simp only [nodeC, List.getElem?_cons_succ, List.getElem?_cons_zero] at m59
            rw [HKV.o] at m59
            have hfr10 := (Fr.of_below (r6.own g) (below_alloc W7 (.cells #[.int .i64 (r4.nv.length : Int)] 3))).trans hkid.2
            obtain ⟨r7, hk7, HR10, HF10, HB10, HJ10, HNS7, hkl7, hts7', HVM7⟩ : ∃ r7 : RS, ∃ hk7 : k < r7.nv.length, Hq (Rd w0 g s r7 (W9.setCell ⟨gM, k * 7 + 5, none⟩ (.slice (some ⟨g9, 0, none⟩) (r6.nv[k].n.kids.length + 1) c9))) ∧ Hq (Fr (OM g M r) (OM g M r7) W (W9.setCell ⟨gM, k * 7 + 5, none⟩ (.slice (some ⟨g9, 0, none⟩) (r6.nv[k].n.kids.length + 1) c9))) ∧ Hq (Lo (r7.own g) (W9.setCell ⟨gM, k * 7 + 5, none⟩ (.slice (some ⟨g9, 0, none⟩) (r6.nv[k].n.kids.length + 1) c9)) b6 61 #[.int .i64 (kd6 : Int), .int .i64 (ta6 : Int), .int .i64 (tb6 : Int)]) ∧ Hq (J r7 had' (W9.setCell ⟨gM, k * 7 + 5, none⟩ (.slice (some ⟨g9, 0, none⟩) (r6.nv[k].n.kids.length + 1) c9))) ∧
                Hq (∀ pc v', (r7.upd k (pcV r7.nv[k] pc v')).ns = addN r6.ns k r4.nv.length pc) ∧ r7.nv[k].n.pcs.length < r7.nv.length ∧ Hq (nbl r7.ts = l2) ∧ Hq (r7.vN = .slice (some ⟨gM, 0, none⟩) r7.nv.length cM) :=
              ⟨_, by rw [upd_len]; exact hk6, hq hkid.1, hq (HF7.o.trans hfr10.om), hq (HB7.o.step hfr10), hq (HJ _ _ _ _ _ HJ7.o hfr10 (Nat.le_of_eq (upd_len ..).symm)), hq (fun pc v' => add_ns2 r6 hk6 _ _ _ pc v'), by rw [upd_get r6 hk6, upd_len]; exact hkl2, hts7, hq (by rw [upd_len]; exact HVM.o)⟩
            clear hkid hfr10 hgrow9 hgrow9' hat9 hown9 hm9 hR8 hKR2
            go_upto_region 15 with fail
            clear m5 m59 hf9 hfM hkl1 HR7 HF7 HB7 HJ7 hts7 HVM
            generalize W9.setCell ⟨gM, k * 7 + 5, none⟩ (.slice (some ⟨g9, 0, none⟩) (r6.nv[k].n.kids.length + 1) c9) = W10 at *
            have hb12 := (below_alloc W10 (.cells #[.int .i64 (fr : Int), .int .i64 (ta6 : Int)] 49)).drew
            have hR12 := HR10.o.grow hb12
            have HBL12 := hq hb12
            obtain ⟨hmm, hff⟩ := HR10.o.mid hk7 HVM7.o (row := r7.nv[k].p.ownBlock) ⟨rfl, rfl, rfl, Nat.le_refl _, fun _ _ _ => rfl⟩ (.inr rfl)
            have m6 := hmm 6 (by omega)
            simp only [nodeC, List.getElem?_cons_succ, List.getElem?_cons_zero] at m6
            have hPR := hR12.pr k hk7
            obtain ⟨pa, pcap, hPv⟩ := row_shape hPR
            rw [hPv] at m6 hPR
            have HPV := hq hPv
            have HR12 := hq hR12
            have HPR2 := hq hPR
            have x1 := HB10.o.at_.at_ 1
            have m6a := ((below_alloc W10 (.cells #[.int .i64 (fr : Int), .int .i64 (ta6 : Int)] 49)).cell (cell_blk' m6)).trans m6
            have hn47 := HR10.o.n4
            have hwx : w0.heap.size ≤ W10.heap.size := HR10.o.bl.size
            obtain ⟨i1, hi1, hy0, hy1, hy2⟩ := info_parts infoSp
            clear hmm hPv hPR hR12 hb12
            go_region_law (refine step_at rfl (.tmp 91) (.tmp 97) 51 rfl w0.heap.size 49 i1 (.agg #[.int .i64 0, .int .i64 0]) 2 16 Tryd.underlying51 hi1 hy0 hy1 hy2 rfl (by decide) (.slice pa r7.nv[k].n.pcs.length pcap) r7.nv[k].n.pcs.length (pcC r7.nv[k].n.pcs) (by simp [Act.eval]) HPR2.o ⟨W10.heap.size, 0, none⟩ 1 1 [.int .i64 (fr : Int), .int .i64 (ta6 : Int)] (by simp [Act.eval]) rfl (cells_of_new W10 [.int .i64 (fr : Int), .int .i64 (ta6 : Int)] _) (by simp [Value.oneCell']) (by unfold maxLen; omega) (by omega) (by show w0.heap.size ≤ (W10.alloc _).heap.size; rw [World.size_alloc]; omega) ?_; intro v'' W12 hown12 hgrow12 hat12; obtain ⟨g12, c12, rfl⟩ := row_shape1 hown12; have HG12 := hq (show World.grownBy _ W12 r7.nv[k].p.ownBlock by rw [HPV.o]; exact hgrow12); have m6' := (HR12.o.mid hk7 HVM7.o HG12.o (.inr rfl)).1 6 (by omega); have hff' := (HR12.o.mid hk7 HVM7.o HG12.o (.inr rfl)).2; simp only [nodeC, List.getElem?_cons_succ, List.getElem?_cons_zero] at m6')
            all_goals
              have hpc := HR12.o.piece hk7 HVM7.o hkl7 hown12 HG12.o (by rw [HPV.o]; exact hat12)
              have hfr13 := (Fr.of_below (r7.own g) HBL12.o).trans hpc.2
              have hns8 := HNS7.o (fr, ta6) (.slice (some ⟨g12, 0, none⟩) (r7.nv[k].n.pcs.length + 1) c12)
              obtain ⟨r8, hk8, HR13, HF13, HB13, HJ13, HNS8, hts8, HVM8⟩ : ∃ r8 : RS, ∃ hk8 : k < r8.nv.length, Hq (Rd w0 g s r8 (W12.setCell ⟨gM, k * 7 + 6, none⟩ (.slice (some ⟨g12, 0, none⟩) (r7.nv[k].n.pcs.length + 1) c12))) ∧ Hq (Fr (OM g M r) (OM g M r8) W (W12.setCell ⟨gM, k * 7 + 6, none⟩ (.slice (some ⟨g12, 0, none⟩) (r7.nv[k].n.pcs.length + 1) c12))) ∧ Hq (Lo (r8.own g) (W12.setCell ⟨gM, k * 7 + 6, none⟩ (.slice (some ⟨g12, 0, none⟩) (r7.nv[k].n.pcs.length + 1) c12)) b6 61 #[.int .i64 (kd6 : Int), .int .i64 (ta6 : Int), .int .i64 (tb6 : Int)]) ∧ Hq (J r8 had' (W12.setCell ⟨gM, k * 7 + 6, none⟩ (.slice (some ⟨g12, 0, none⟩) (r7.nv[k].n.pcs.length + 1) c12))) ∧
                  Hq (r8.ns = addN ns1 k r4.ns.length (fr, ta6)) ∧ Hq (nbl r8.ts = l2) ∧ Hq (r8.vN = .slice (some ⟨gM, 0, none⟩) r8.nv.length cM) :=
                ⟨_, by rw [upd_len]; exact hk7, hq hpc.1, hq (HF10.o.trans hfr13.om), hq (HB10.o.step hfr13), hq (HJ _ _ _ _ _ HJ10.o hfr13 (Nat.le_of_eq (upd_len ..).symm)), hq (by rw [hns8, HNS6.o, RS.ns_len]), hts7', hq (by rw [upd_len]; exact HVM7.o)⟩
              have hlts : l2.length < f := by
                have h1 := HX.o.ts
                rw [HTL.o.1, List.length_cons] at h1
                omega
              clear hpc hfr13 hns8 hown12 hgrow12 hat12 HG12 m6' hff' m6 m6a x1 x0 HR12 HPR2 HPV HBL12 HR10 HF10 HB10 HJ10 HNS7 hts7' HVM7 HNS6 HTL HX
              go_simp
              generalize W12.setCell ⟨gM, k * 7 + 6, none⟩ (.slice (some ⟨g12, 0, none⟩) (r7.nv[k].n.pcs.length + 1) c12) = W13 at *
              have x0 := HB13.o.at_.at_ 0
              have x2 := HB13.o.at_.at_ 2
              by_cases hke : kd6 = en
              · have hRE : Hq (R = .inr (l2, closeN (addN ns1 k r4.ns.length (fr, ta6)) k tb6)) := hq (hRR.o.trans (loopM_end HKID.o HTK.o (hke.trans HEN.o.symm)))
                obtain ⟨gM', cM', hv', _, _, hf8, hn8⟩ := HR13.o.node hk8
                rw [HVM8.o] at hv'
                cases hv'
                have m2 := hn8 2 (by omega)
                simp only [nodeC, List.getElem?_cons_succ, List.getElem?_cons_zero] at m2
                have hcl := HR13.o.close hk8 HVM8.o tb6
                have HV := hq (HPR.o l2 (closeN (addN ns1 k r4.ns.length (fr, ta6)) k tb6) _ _ hRE.o hcl.1 (HF13.o.trans hcl.2.om) hts8.o ((close_ns _ hk8 tb6).trans (by rw [HNS8.o])))
                clear hcl hn8 HPR HPL hRE hRR HKID HTK HR13 HF13 HB13 HJ13 HVM8
                subst hke
                go_wp2_with fail
                exact HV.o
              · have hkez : ¬ (kd6 : Int) = (en : Int) := by omega
                have hkeb : ((kd6 : Int) == (en : Int)) = false := beq_eq_false_iff_ne.2 hkez
                have hRE : Hq (R = loopM (valueM s.size (keyTx s) d) ob s.size (keyTx s) k f had' tb6 (nbl r8.ts) r8.ns) := hq ((hRR.o.trans (loopM_more HKID.o HTK.o (fun h => hke (h.trans HEN.o)))).trans (by rw [hts8.o, HNS8.o]))
                clear HPR HPL hRR HKID HTK
                go_wp2_with fail
                go_roundg f
                case measure => omega
                case rel => exact ⟨r8, had', tb6, rfl, hk8, by rw [hts8.o]; exact hlts, HR13, HJ13, HF13, hRE⟩
    · obtain ⟨kd, ta, tb⟩ := t
      unfold nextV
      dsimp only
      simp only at ht
      have hke : kd ≠ en := fun e => hen (by rw [← HNB.o, nbl_cons, if_neg ht, e]; rfl)
      have hkz' : ¬ (kd : Int) = (en : Int) := by omega
      have hkb : ((kd : Int) == (en : Int)) = false := beq_eq_false_iff_ne.2 hkz'
      obtain ⟨r3, hr3, hns3, hnb3⟩ : ∃ r3, r3 = r.at ((kd, ta, tb) :: l) o cap ∧ r3.nv = r.nv ∧ nbl r3.ts = nbl r.ts := ⟨_, rfl, rfl, HNB.o⟩
      rw [← hr3] at HR2
      have HF2' : Hq (Fr (r.own g) (r3.own g) W W2) := hq (by rw [hr3]; exact HF2.o)
      have HW3 := hq (HR2.o.grow (below_alloc W2 (.cells #[.int .i64 (kd : Int), .int .i64 (ta : Int), .int .i64 (tb : Int)] 61)))
      have HF3 := hq (HF2'.o.trans (Fr.of_below _ (below_alloc W2 (.cells #[.int .i64 (kd : Int), .int .i64 (ta : Int), .int .i64 (tb : Int)] 61))))
      have HB3 := hq (Whole.made W2 61 #[.int .i64 (kd : Int), .int .i64 (ta : Int), .int .i64 (tb : Int)])
      have x0 := HB3.o.at_ 0
      have HNB3 := hq hnb3
      have HNS3 := hq hns3
      clear hr3 hnb3 hns3 HR2 HF2 HF2' HNB hlp
      go_wp2_with fail
      go_loopg [9] ((nbl r.ts).length + 1) (fun gk frv wr => ∃ r4 had fr, frv = .int .i64 ((fr : Nat) : Int) ∧ k < r4.nv.length ∧ (nbl r4.ts).length < gk ∧ Hq (Rd w0 g s r4 wr) ∧ Hq (J r4 had wr) ∧ Hq (Fr (OM g M r) (OM g M r4) W wr) ∧ Hq (R = loopM (valueM s.size (keyTx s) d) ob s.size (keyTx s) k gk had fr (nbl r4.ts) r4.ns))
      case atStart =>
        refine ⟨r3, [], t0, rfl, by rw [HNS3.o]; exact hk, by rw [HNB3.o]; omega, HW3, hq (HJ _ _ _ _ _ HJJ.o HF3.o (Nat.le_of_eq (by rw [HNS3.o]))), hq HF3.o.om, hq ?_⟩
        have hns : r3.ns = r.ns := by unfold RS.ns; rw [HNS3.o]
        rw [HLM.o, if_neg hen, HNB3.o, hns]
      case round =>
        obtain ⟨r4, had, fr, rfl, hk4, hlt, hR4, hJ4, hF4, hRR⟩ := hrel
        obtain ⟨f, rfl⟩ : ∃ f, gk = f + 1 := ⟨gk - 1, by omega⟩
        have HC := hq (HO r4 had wr hR4.o hJ4.o)
        unfold KidPost at HC
        cases hkid : kidM (valueM s.size (keyTx s) d) ob s.size (keyTx s) had (nbl r4.ts) r4.ns with
        | inl e =>
          obtain ⟨wh, er⟩ := e
          rw [hkid] at HC
          simp only at HC
          have HRR : Hq (R = .inl (wh, er)) := hq (hRR.o.trans (loopM_kid hkid))
          clear hkid hRR HW3 HF3 HLM
          go_wp2_with fail
          refine HC.o.mono ?_
          rintro e W5 ⟨⟨q, rfl⟩, r5, hR5, hF5, hwh, her⟩
          have HV := hq (HPL.o wh er W5 r5 HRR.o hR5 (hF4.o.trans hF5) hwh her)
          clear hR5 hF5 hwh her
          go_wp2_with fail
          exact HV.o
        | inr p =>
          obtain ⟨had', l1, ns1⟩ := p
          rw [hkid] at HC
          simp only at HC
          have HX := hq (kidM_ext (valueM_ext s.size (keyTx s) d) hkid)
          have HKID := hq hkid
          clear hkid HW3 HF3 HLM
          go_wp2_with fail
          refine HC.o.mono ?_
          rintro e W5 ⟨rfl, r5, hR5, hJ5, hF5, hts5, hns5⟩
          have HR5 := hq hR5
          have HT := hq (jtake_any hR5 6 en)
          have HJ5 := hq hJ5
          have HF5 := hq (hF4.o.trans hF5)
          have HNS5 := hq hns5
          unfold TakePost at HT
          rw [hts5] at HT
          clear hR5 hJ5 hF5 hts5 hns5 HC
          cases htk : takeM s.size 6 en l1 with
          | inl e =>
            obtain ⟨wh, er⟩ := e
            rw [htk] at HT
            simp only at HT
            have HRR : Hq (R = .inl (wh, er)) := hq (hRR.o.trans (loopM_take HKID.o (by rw [HEN.o]; exact htk)))
            clear htk hRR
            go_wp2_with fail
            refine HT.o.mono ?_
            rintro e W6 ⟨rfl, ⟨ts6, o6, cap6, hR6⟩, hF6⟩
            have HV := hq (HPL.o wh er _ _ HRR.o (hR6.grow (below_alloc W6 (.cells #[.int .i64 0, .int .i64 0, .int .i64 0] 61))) ((HF5.o.trans hF6.om).trans (Fr.of_below _ (below_alloc W6 _))) rfl rfl)
            unfold zeroA
            clear hR6 hF6
            go_wp2_with fail
            exact HV.o
          | inr p =>
            obtain ⟨⟨kd6, ta6, tb6⟩, l2⟩ := p
            rw [htk] at HT
            simp only at HT
            have HTK : Hq (takeM s.size 6 (jendM ob) l1 = .inr ((kd6, ta6, tb6), l2)) := hq (by rw [HEN.o]; exact htk)
            have HTL := hq (takeM_inr htk)
            clear htk
            go_wp2_with fail
            refine HT.o.mono ?_
            rintro e W6 ⟨rfl, _, ⟨ts6, o6, cap6, hR6, hts6⟩, hF6⟩
            have hl5 : r4.nv.length < r5.nv.length := by
              have h1 := HX.o.ln
              rw [← HNS5.o, RS.ns_len, RS.ns_len] at h1
              exact h1
            have hkl := hR4.o.kl k hk4
            have hnk : r5.nv[k].n = r4.nv[k].n := by
              have h1 := HX.o.at_ k (by rw [RS.ns_len]; exact hk4)
              rw [← HNS5.o, RS.ns_at _ (Nat.lt_trans hk4 hl5), RS.ns_at _ hk4] at h1
              exact Option.some.inj h1
            obtain ⟨r6, hk6, HR7, HF7, HB7, HJ7, HNS6, hkl1, hkl2, hts7⟩ : ∃ r6 : RS, ∃ hk6 : k < r6.nv.length, Hq (Rd w0 g s r6 (W6.alloc (.cells #[.int .i64 (kd6 : Int), .int .i64 (ta6 : Int), .int .i64 (tb6 : Int)] 61))) ∧ Hq (Fr (OM g M r) (OM g M r6) W (W6.alloc (.cells #[.int .i64 (kd6 : Int), .int .i64 (ta6 : Int), .int .i64 (tb6 : Int)] 61))) ∧
                Hq (Lo (r6.own g) (W6.alloc (.cells #[.int .i64 (kd6 : Int), .int .i64 (ta6 : Int), .int .i64 (tb6 : Int)] 61)) W6.heap.size 61 #[.int .i64 (kd6 : Int), .int .i64 (ta6 : Int), .int .i64 (tb6 : Int)]) ∧ Hq (J r6 had' (W6.alloc (.cells #[.int .i64 (kd6 : Int), .int .i64 (ta6 : Int), .int .i64 (tb6 : Int)] 61))) ∧ Hq (r6.ns = ns1) ∧ r6.nv[k].n.kids.length < r6.nv.length ∧ r6.nv[k].n.pcs.length < r6.nv.length ∧ Hq (nbl r6.ts = l2) :=
              ⟨r5.at ts6 o6 cap6, Nat.lt_trans hk4 hl5, hq (hR6.grow (below_alloc W6 _)), hq ((HF5.o.trans hF6.om).trans (Fr.of_below _ (below_alloc W6 _))), hq (Lo.new (fun k hk => (hR6.own_lt k hk).2) _ _), hq (HJ _ (r5.at ts6 o6 cap6) _ _ _ HJ5.o (hF6.trans (Fr.of_below _ (below_alloc W6 _))) (Nat.le_refl _)), HNS5,
                by show r5.nv[k].n.kids.length < r5.nv.length; rw [hnk]; omega, by show r5.nv[k].n.pcs.length < r5.nv.length; rw [hnk]; omega, hq hts6⟩
            clear hnk hkl hR6 hF6 hts6 HR5 HJ5 HF5 HNS5 HT hl5
            obtain ⟨gM, cM, hvM, _, _, hfM, hnodeM⟩ := HR7.o.node hk6
            have d2 := HR7.o.cells.2.2.1
            rw [hvM] at d2
            have hkz6 : (k : Int) < (r6.nv.length : Int) := by omega
            have m5 := hnodeM 5 (by omega)
            simp only [nodeC, List.getElem?_cons_succ, List.getElem?_cons_zero] at m5
            have hKR := HR7.o.kr k hk6
            obtain ⟨ka, kc, hKv⟩ := row_shape hKR
            have hn4 := HR7.o.n4
            rw [hKv] at m5
            have HVM := hq hvM
            clear hnodeM hvM
            unfold tokA
            dsimp only
            go_upto_region 13 with fail
            generalize hW7 : W6.alloc (.cells #[.int .i64 (kd6 : Int), .int .i64 (ta6 : Int), .int .i64 (tb6 : Int)] 61) = W7 at *
            generalize W6.heap.size = b6 at *
            clear hW7
            have x0 := HB7.o.at_.at_ 0
            have hKR2 : W7.ownsRow w0.heap.size 3 1 (.slice ka r6.nv[k].n.kids.length kc) r6.nv[k].n.kids.length (kidC r6.nv[k].n.kids) := by rw [← hKv]; exact hKR
            have HKV := hq hKv
            have hww : w0.heap.size ≤ W7.heap.size := HR7.o.bl.size
            obtain ⟨i0, hi0, hz0, hz1, hz2⟩ := info_parts infoI
            clear hKv hKR
            go_wp2_with (at_builtin; refine wpList_append_own_at _ rfl _ _ 50 rfl w0.heap.size 3 i0 (.int .i64 0) 1 8 Tryd.underlying50 hi0 hz0 hz1 hz2 rfl (by decide) _ _ _ rfl (hKR2.alloc _) ⟨W7.heap.size, 0, none⟩ 1 1 [.int .i64 (r4.nv.length : Int)] rfl rfl (cells_of_new _ [.int .i64 (r4.nv.length : Int)] _) (by simp [Value.oneCell']) (by unfold maxLen; omega) (by omega) (by rw [World.size_alloc]; omega) ?_)
            intro v' W9 hown9 hgrow9 _ hat9
            obtain ⟨g9, c9, rfl⟩ := row_shape1 hown9
            have hR8 := HR7.o.grow (below_alloc W7 (.cells #[.int .i64 (r4.nv.length : Int)] 3))
            have hgrow9' : (W7.alloc (.cells #[.int .i64 (r4.nv.length : Int)] 3)).grownBy W9 r6.nv[k].k.ownBlock := by rw [HKV.o]; exact hgrow9
            have hkid := hR8.kid hk6 HVM.o hkl1 hown9 hgrow9' (by rw [HKV.o, World.size_alloc]; exact hat9)
            obtain ⟨hm9, hf9⟩ := hR8.mid hk6 HVM.o hgrow9' (.inl rfl)
            have m59 := hm9 5 (by omega)
            simp only [nodeC, List.getElem?_cons_succ, List.getElem?_cons_zero] at m59
            rw [HKV.o] at m59
            have hfr10 := (Fr.of_below (r6.own g) (below_alloc W7 (.cells #[.int .i64 (r4.nv.length : Int)] 3))).trans hkid.2
            obtain ⟨r7, hk7, HR10, HF10, HB10, HJ10, HNS7, hkl7, hts7', HVM7⟩ : ∃ r7 : RS, ∃ hk7 : k < r7.nv.length, Hq (Rd w0 g s r7 (W9.setCell ⟨gM, k * 7 + 5, none⟩ (.slice (some ⟨g9, 0, none⟩) (r6.nv[k].n.kids.length + 1) c9))) ∧ Hq (Fr (OM g M r) (OM g M r7) W (W9.setCell ⟨gM, k * 7 + 5, none⟩ (.slice (some ⟨g9, 0, none⟩) (r6.nv[k].n.kids.length + 1) c9))) ∧ Hq (Lo (r7.own g) (W9.setCell ⟨gM, k * 7 + 5, none⟩ (.slice (some ⟨g9, 0, none⟩) (r6.nv[k].n.kids.length + 1) c9)) b6 61 #[.int .i64 (kd6 : Int), .int .i64 (ta6 : Int), .int .i64 (tb6 : Int)]) ∧ Hq (J r7 had' (W9.setCell ⟨gM, k * 7 + 5, none⟩ (.slice (some ⟨g9, 0, none⟩) (r6.nv[k].n.kids.length + 1) c9))) ∧
                Hq (∀ pc v', (r7.upd k (pcV r7.nv[k] pc v')).ns = addN r6.ns k r4.nv.length pc) ∧ r7.nv[k].n.pcs.length < r7.nv.length ∧ Hq (nbl r7.ts = l2) ∧ Hq (r7.vN = .slice (some ⟨gM, 0, none⟩) r7.nv.length cM) :=
              ⟨_, by rw [upd_len]; exact hk6, hq hkid.1, hq (HF7.o.trans hfr10.om), hq (HB7.o.step hfr10), hq (HJ _ _ _ _ _ HJ7.o hfr10 (Nat.le_of_eq (upd_len ..).symm)), hq (fun pc v' => add_ns2 r6 hk6 _ _ _ pc v'), by rw [upd_get r6 hk6, upd_len]; exact hkl2, hts7, hq (by rw [upd_len]; exact HVM.o)⟩
            clear hkid hfr10 hgrow9 hgrow9' hat9 hown9 hm9 hR8 hKR2
            go_upto_region 15 with fail
            clear m5 m59 hf9 hfM hkl1 HR7 HF7 HB7 HJ7 hts7 HVM
            generalize W9.setCell ⟨gM, k * 7 + 5, none⟩ (.slice (some ⟨g9, 0, none⟩) (r6.nv[k].n.kids.length + 1) c9) = W10 at *
            have hb12 := (below_alloc W10 (.cells #[.int .i64 (fr : Int), .int .i64 (ta6 : Int)] 49)).drew
            have hR12 := HR10.o.grow hb12
            have HBL12 := hq hb12
            obtain ⟨hmm, hff⟩ := HR10.o.mid hk7 HVM7.o (row := r7.nv[k].p.ownBlock) ⟨rfl, rfl, rfl, Nat.le_refl _, fun _ _ _ => rfl⟩ (.inr rfl)
            have m6 := hmm 6 (by omega)
            simp only [nodeC, List.getElem?_cons_succ, List.getElem?_cons_zero] at m6
            have hPR := hR12.pr k hk7
            obtain ⟨pa, pcap, hPv⟩ := row_shape hPR
            rw [hPv] at m6 hPR
            have HPV := hq hPv
            have HR12 := hq hR12
            have HPR2 := hq hPR
            have x1 := HB10.o.at_.at_ 1
            have m6a := ((below_alloc W10 (.cells #[.int .i64 (fr : Int), .int .i64 (ta6 : Int)] 49)).cell (cell_blk' m6)).trans m6
            have hn47 := HR10.o.n4
            have hwx : w0.heap.size ≤ W10.heap.size := HR10.o.bl.size
            obtain ⟨i1, hi1, hy0, hy1, hy2⟩ := info_parts infoSp
            clear hmm hPv hPR hR12 hb12
            go_region_law (refine step_at rfl (.tmp 91) (.tmp 97) 51 rfl w0.heap.size 49 i1 (.agg #[.int .i64 0, .int .i64 0]) 2 16 Tryd.underlying51 hi1 hy0 hy1 hy2 rfl (by decide) (.slice pa r7.nv[k].n.pcs.length pcap) r7.nv[k].n.pcs.length (pcC r7.nv[k].n.pcs) (by simp [Act.eval]) HPR2.o ⟨W10.heap.size, 0, none⟩ 1 1 [.int .i64 (fr : Int), .int .i64 (ta6 : Int)] (by simp [Act.eval]) rfl (cells_of_new W10 [.int .i64 (fr : Int), .int .i64 (ta6 : Int)] _) (by simp [Value.oneCell']) (by unfold maxLen; omega) (by omega) (by show w0.heap.size ≤ (W10.alloc _).heap.size; rw [World.size_alloc]; omega) ?_; intro v'' W12 hown12 hgrow12 hat12; obtain ⟨g12, c12, rfl⟩ := row_shape1 hown12; have HG12 := hq (show World.grownBy _ W12 r7.nv[k].p.ownBlock by rw [HPV.o]; exact hgrow12); have m6' := (HR12.o.mid hk7 HVM7.o HG12.o (.inr rfl)).1 6 (by omega); have hff' := (HR12.o.mid hk7 HVM7.o HG12.o (.inr rfl)).2; simp only [nodeC, List.getElem?_cons_succ, List.getElem?_cons_zero] at m6')
            all_goals
              have hpc := HR12.o.piece hk7 HVM7.o hkl7 hown12 HG12.o (by rw [HPV.o]; exact hat12)
              have hfr13 := (Fr.of_below (r7.own g) HBL12.o).trans hpc.2
              have hns8 := HNS7.o (fr, ta6) (.slice (some ⟨g12, 0, none⟩) (r7.nv[k].n.pcs.length + 1) c12)
              obtain ⟨r8, hk8, HR13, HF13, HB13, HJ13, HNS8, hts8, HVM8⟩ : ∃ r8 : RS, ∃ hk8 : k < r8.nv.length, Hq (Rd w0 g s r8 (W12.setCell ⟨gM, k * 7 + 6, none⟩ (.slice (some ⟨g12, 0, none⟩) (r7.nv[k].n.pcs.length + 1) c12))) ∧ Hq (Fr (OM g M r) (OM g M r8) W (W12.setCell ⟨gM, k * 7 + 6, none⟩ (.slice (some ⟨g12, 0, none⟩) (r7.nv[k].n.pcs.length + 1) c12))) ∧ Hq (Lo (r8.own g) (W12.setCell ⟨gM, k * 7 + 6, none⟩ (.slice (some ⟨g12, 0, none⟩) (r7.nv[k].n.pcs.length + 1) c12)) b6 61 #[.int .i64 (kd6 : Int), .int .i64 (ta6 : Int), .int .i64 (tb6 : Int)]) ∧ Hq (J r8 had' (W12.setCell ⟨gM, k * 7 + 6, none⟩ (.slice (some ⟨g12, 0, none⟩) (r7.nv[k].n.pcs.length + 1) c12))) ∧
                  Hq (r8.ns = addN ns1 k r4.ns.length (fr, ta6)) ∧ Hq (nbl r8.ts = l2) ∧ Hq (r8.vN = .slice (some ⟨gM, 0, none⟩) r8.nv.length cM) :=
                ⟨_, by rw [upd_len]; exact hk7, hq hpc.1, hq (HF10.o.trans hfr13.om), hq (HB10.o.step hfr13), hq (HJ _ _ _ _ _ HJ10.o hfr13 (Nat.le_of_eq (upd_len ..).symm)), hq (by rw [hns8, HNS6.o, RS.ns_len]), hts7', hq (by rw [upd_len]; exact HVM7.o)⟩
              have hlts : l2.length < f := by
                have h1 := HX.o.ts
                rw [HTL.o.1, List.length_cons] at h1
                omega
              clear hpc hfr13 hns8 hown12 hgrow12 hat12 HG12 m6' hff' m6 m6a x1 x0 HR12 HPR2 HPV HBL12 HR10 HF10 HB10 HJ10 HNS7 hts7' HVM7 HNS6 HTL HX
              go_simp
              generalize W12.setCell ⟨gM, k * 7 + 6, none⟩ (.slice (some ⟨g12, 0, none⟩) (r7.nv[k].n.pcs.length + 1) c12) = W13 at *
              have x0 := HB13.o.at_.at_ 0
              have x2 := HB13.o.at_.at_ 2
              by_cases hke : kd6 = en
              · have hRE : Hq (R = .inr (l2, closeN (addN ns1 k r4.ns.length (fr, ta6)) k tb6)) := hq (hRR.o.trans (loopM_end HKID.o HTK.o (hke.trans HEN.o.symm)))
                obtain ⟨gM', cM', hv', _, _, hf8, hn8⟩ := HR13.o.node hk8
                rw [HVM8.o] at hv'
                cases hv'
                have m2 := hn8 2 (by omega)
                simp only [nodeC, List.getElem?_cons_succ, List.getElem?_cons_zero] at m2
                have hcl := HR13.o.close hk8 HVM8.o tb6
                have HV := hq (HPR.o l2 (closeN (addN ns1 k r4.ns.length (fr, ta6)) k tb6) _ _ hRE.o hcl.1 (HF13.o.trans hcl.2.om) hts8.o ((close_ns _ hk8 tb6).trans (by rw [HNS8.o])))
                clear hcl hn8 HPR HPL hRE hRR HKID HTK HR13 HF13 HB13 HJ13 HVM8
                subst hke
                go_wp2_with fail
                exact HV.o
              · have hkez : ¬ (kd6 : Int) = (en : Int) := by omega
                have hkeb : ((kd6 : Int) == (en : Int)) = false := beq_eq_false_iff_ne.2 hkez
                have hRE : Hq (R = loopM (valueM s.size (keyTx s) d) ob s.size (keyTx s) k f had' tb6 (nbl r8.ts) r8.ns) := hq ((hRR.o.trans (loopM_more HKID.o HTK.o (fun h => hke (h.trans HEN.o)))).trans (by rw [hts8.o, HNS8.o]))
                clear HPR HPL hRR HKID HTK
                go_wp2_with fail
                go_roundg f
                case measure => omega
                case rel => exact ⟨r8, had', tb6, rfl, hk8, by rw [hts8.o]; exact hlts, HR13, HJ13, HF13, hRE⟩
end Go.Proofs.YtmomildkopainaaDoor
