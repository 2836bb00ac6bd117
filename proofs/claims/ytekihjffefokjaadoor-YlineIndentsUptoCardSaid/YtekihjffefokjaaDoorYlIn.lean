/-
  THE WALK OF THE LAW YlineIndents.
-/
import Derived.Test.YtekihjffefokjaaDoorYlI
import Derived.Test.YtekihjffefokjaaDoorYlSm
import Derived.Laws.BitsLemmas
namespace Go.Proofs.YtekihjffefokjaaDoor
open Go.RowKit

theorem i64_and7 (n : Int) : bits .and .i64 n 7 = n % 8 := by
  have h7 : (BitVec.ofInt 64 7).toNat = 2 ^ 3 - 1 := by decide
  have key : (BitVec.ofInt 64 n &&& BitVec.ofInt 64 7).toNat = (n % ((2 ^ 64 : Nat) : Int)).toNat % 2 ^ 3 := by
    rw [BitVec.toNat_and, BitVec.toNat_ofInt, h7, Nat.and_two_pow_sub_one_eq_mod]
  show IntKind.i64.wrap ((BitVec.ofInt 64 n &&& BitVec.ofInt 64 7).toNat : Nat) = n % 8
  rw [key, IntKind.wrap_i64]
  omega
theorem byt_list (s : ByteArray) (i : Nat) (h : i < s.size) : byt s i = ((s.data.toList)[i]'(by rw [Array.length_toList]; exact h)).toNat := by
  rw [byt_eq s i h]; rfl
theorem blanks_list : ∀ n : Fin 8, ((⟨#[32, 32, 32, 32, 32, 32, 32, 32]⟩ : ByteArray).extract 0 n.val).data.toList = List.replicate n.val 32 := by decide +kernel
theorem app_list (a b : ByteArray) : (a ++ b).data.toList = a.data.toList ++ b.data.toList := by simp
theorem pad_list (n : Nat) (hn : n ≤ 7) (s : ByteArray) : ((⟨#[32, 32, 32, 32, 32, 32, 32, 32]⟩ : ByteArray).extract 0 n ++ s).data.toList = List.replicate n 32 ++ s.data.toList := by
  rw [app_list, blanks_list ⟨n, by omega⟩]
theorem lf_pad (n : Nat) (l : Bs) : (0 ≤ Lib.indexByte (List.replicate n 32 ++ l) 10) = (0 ≤ Lib.indexByte l 10) := by
  induction n with
  | zero => rfl
  | succ n ih =>
    rw [List.replicate_succ, List.cons_append, ← ih]
    have hg := Lib.indexByte_ge (List.replicate n 32 ++ l) 10
    have e : Lib.indexByte (32 :: (List.replicate n 32 ++ l)) 10 = if Lib.indexByte (List.replicate n 32 ++ l) 10 == -1 then -1 else Lib.indexByte (List.replicate n 32 ++ l) 10 + 1 := by
      rw [Lib.indexByte, if_neg (by decide)]
    rw [e]
    generalize Lib.indexByte (List.replicate n 32 ++ l) 10 = x at *
    refine propext ?_
    split
    · rename_i h
      have := beq_iff_eq.1 h
      omega
    · rename_i h
      have : ¬ x = -1 := fun e => h (by rw [e]; rfl)
      constructor <;> (intro; omega)
theorem pad_size (n : Nat) (hn : n ≤ 7) (s : ByteArray) : ((⟨#[32, 32, 32, 32, 32, 32, 32, 32]⟩ : ByteArray).extract 0 n ++ s).size = n + s.size := by
  have h := congrArg List.length (pad_list n hn s)
  rw [Array.length_toList, List.length_append, List.length_replicate, Array.length_toList] at h
  exact h
theorem pad_suf (n : Nat) (hn : n ≤ 7) (s : ByteArray) : Suf ((⟨#[32, 32, 32, 32, 32, 32, 32, 32]⟩ : ByteArray).extract 0 n ++ s) n s := by
  have hz := pad_size n hn s
  refine ⟨by omega, ba_ext (Array.ext' ?_)⟩
  rw [tail_list, pad_list n hn s, List.drop_left' (by simp)]
theorem pad_blanks (n : Nat) (hn : n ≤ 7) (s : ByteArray) : Blanks ((⟨#[32, 32, 32, 32, 32, 32, 32, 32]⟩ : ByteArray).extract 0 n ++ s) n := fun i hi => by
  have hz := pad_size n hn s
  rw [byt_list _ i (by omega)]
  have : ∀ (l : Bs) (h : i < l.length), l = List.replicate n 32 ++ s.data.toList → l[i] = 32 := fun l h e => by
    subst e
    rw [List.getElem_append_left (by simpa using hi)]
    simp
  rw [this _ (by rw [Array.length_toList]; show i < ByteArray.size _; omega) (pad_list n hn s)]
  rfl

def lineK (kd : Nat) (sz p : Int) (ko : Option Nat) (r0 r1 : Int) (no : Option Nat) (n : Int) : LineR :=
  ⟨kd, 0, sz + n, p + n, (match ko with | none => 0 | some _ => p + n), (match ko with | none => 0 | some e => (e : Int) + n), r0 + n, r1 + n, (match no with | none => 0 | some c => (c : Int) + n), (match no with | none => 0 | some _ => sz + n)⟩
theorem indents_cases (s t : ByteArray) (n : Nat) (hs : Suf t n s) (h : Blanks t n) (hlf : hasLF t = hasLF s) :
    (lineM s 0 s.size = (lineZ, 0, 1) ∧ lineM t 0 t.size = (lineZ, 0, 1)) ∨ (∃ q : Nat, q ≤ s.size ∧ lineM s 0 s.size = (lineZ, (q : Int), 2) ∧ lineM t 0 t.size = (lineZ, (q : Int) + n, 2)) ∨
    (∃ (kd p r0 r1 : Nat) (ko no : Option Nat), LineOk s p kd ko r0 r1 no ∧ p ≤ s.size ∧ lineM s 0 s.size = (lineK kd s.size p ko r0 r1 no 0, (s.size : Int), 0) ∧ lineM t 0 t.size = (lineK kd s.size p ko r0 r1 no n, (s.size : Int) + n, 0)) := by
  have hz := hs.size
  rw [lineM_blanks s t n hs h hlf, lineM_all s]
  have hcl := clnM_le s true s.size 0
  have hbl := blk_le s 0 (Nat.zero_le _)
  by_cases h1 : hasLF s = true
  · left; rw [if_pos h1, if_pos h1]; exact ⟨rfl, rfl⟩
  · right
    rw [if_neg h1, if_neg h1]
    by_cases h2 : cleanM s true = s.size
    · rw [if_neg (fun hh => hh h2), if_neg (fun hh => hh h2)]
      cases hD : lineD s (blk s 0) with
      | none => left; exact ⟨blk s 0, hbl, rfl, by show (lineZ, ((n + blk s 0 : Nat) : Int), (2 : Int)) = _; rw [show ((n + blk s 0 : Nat) : Int) = (blk s 0 : Int) + n by omega]⟩
      | some d =>
        right
        have hok := lineD_ok s (blk s 0) hbl d hD
        obtain ⟨kd, ko, ⟨r0, r1⟩, no⟩ := d
        refine ⟨kd, blk s 0, r0, r1, ko, no, hok, hbl, ?_, ?_⟩
        · show (lineR 0 s.size (blk s 0) (kd, ko, (r0, r1), no), (s.size : Int), (0 : Int)) = _
          unfold lineR lineK
          cases ko <;> cases no <;> simp
        · show (lineR 0 t.size (n + blk s 0) (upD n (kd, ko, (r0, r1), no)), (t.size : Int), (0 : Int)) = _
          have e1 : (t.size : Int) = (s.size : Int) + n := by omega
          unfold lineR lineK upD upR upO
          rw [e1]
          cases ko <;> cases no <;> simp <;> omega
    · rw [if_pos h2, if_pos h2]
      left
      exact ⟨cleanM s true, hcl, rfl, by rw [show ((n + cleanM s true : Nat) : Int) = (cleanM s true : Int) + n by omega]⟩

set_option maxHeartbeats 4000000 in
set_option maxRecDepth 1000000 in
theorem lindents_any (s : ByteArray) (k : Int) (w : World) (hT : tabs w) (hm : mx w) (hs : s.size ≤ 1048576) (_hk : -9223372036854775808 ≤ k ∧ k ≤ 9223372036854775807) :
    Calls Tryd.prog 7 #[.string s, .int .i64 k] w fun e w' => e = .returned (.bool true) ∧ Below w.heap.size w w' := by
  obtain ⟨n, hn, hn7⟩ : ∃ n : Nat, k % 8 = (n : Int) ∧ n ≤ 7 := ⟨(k % 8).toNat, by omega, by omega⟩
  have hb7 : bits BinOp.and .i64 k 7 = (n : Int) := (i64_and7 k).trans hn
  have hpz := pad_size n hn7 s
  have hez : ((⟨#[32, 32, 32, 32, 32, 32, 32, 32]⟩ : ByteArray).extract 0 n).size + s.size ≤ 4294967296 := by
    rw [ByteArray.size_append] at hpz
    omega
  have hlf : hasLF ((⟨#[32, 32, 32, 32, 32, 32, 32, 32]⟩ : ByteArray).extract 0 n ++ s) = hasLF s := by
    unfold hasLF
    rw [pad_list n hn7 s]
    exact decide_eq_decide.2 (iff_of_eq (lf_pad n _))
  have HIC := hq (indents_cases s _ n (pad_suf n hn7 s) (pad_blanks n hn7 s) hlf)
  have HL1 := hq (fun W (hW : tabs W) => yline_any s 0 (s.size : Int) W hW (by omega) (by omega) (by omega))
  have HL2 := hq (fun W (hW : tabs W) => yline_any ((⟨#[32, 32, 32, 32, 32, 32, 32, 32]⟩ : ByteArray).extract 0 n ++ s) 0 ((((⟨#[32, 32, 32, 32, 32, 32, 32, 32]⟩ : ByteArray).extract 0 n ++ s).size : Nat) : Int) W hW (by omega) (by omega) (by omega))
  have HA1 := hq (fun W => yall_any s W (by unfold maxLen; omega))
  have HA2 := hq (fun W => yall_any ((⟨#[32, 32, 32, 32, 32, 32, 32, 32]⟩ : ByteArray).extract 0 n ++ s) W (by unfold maxLen; omega))
  have HSM := hq (fun W (hW : tabs W) (hM : mx W) => ysmall_any W hW hM)
  have HT := hq hT
  have HM := hq hm
  clear hT hm hlf hn _hk hpz
  generalize hR1 : lineM s 0 s.size = R1 at *
  generalize hR2 : lineM ((⟨#[32, 32, 32, 32, 32, 32, 32, 32]⟩ : ByteArray).extract 0 n ++ s) 0 ((((⟨#[32, 32, 32, 32, 32, 32, 32, 32]⟩ : ByteArray).extract 0 n ++ s).size : Nat) : Int) = R2 at *
  clear hR1 hR2
  rcases HIC.o with ⟨rfl, rfl⟩ | ⟨q, hq1, rfl, rfl⟩ | ⟨kd, p, r0, r1, ko, no, hok, hp, rfl, rfl⟩
  · clear HIC
    simp only [lineZ, LineR.val] at HL1 HL2
    go_enter Tryd.func7, Tryd.ntmps7
    go_wp2_with fail
    refine (HSM.o _ HT.o HM.o).mono ?_
    rintro e w1 ⟨rfl, hb1⟩
    have HB1 := hq hb1
    clear hb1 HSM
    go_wp2_with fail
    refine (HA1.o _).mono ?_
    rintro e w2 ⟨rfl, hb2⟩
    have HB2 := hq (below_trans HB1.o hb2)
    clear hb2 HA1 HB1
    go_wp2_with fail
    refine (HL1.o _ (tabs_grow HT.o HB2.o)).mono ?_
    rintro e w3 ⟨rfl, hb3⟩
    have HB3 := hq (below_trans HB2.o hb3)
    clear hb3 HL1 HB2
    go_wp2_with fail
    generalize (⟨#[32, 32, 32, 32, 32, 32, 32, 32]⟩ : ByteArray).extract 0 n ++ s = T at *
    refine (HA2.o _).mono ?_
    rintro e w4 ⟨rfl, hb4⟩
    have HB4 := hq ((HB3.o.alloc HB3.o.size (.cells #[.int .i64 0, .int .i64 0, .int .i64 0, .int .i64 0, .int .i64 0, .int .i64 0, .int .i64 0, .int .i64 0, .int .i64 0, .int .i64 0] 26)).trans (hb4.mono (by have := HB3.o.size; rw [World.size_alloc]; omega)))
    clear hb4 HA2 HB3
    go_wp2_with fail
    refine (HL2.o _ (tabs_grow HT.o HB4.o)).mono ?_
    rintro e w5 ⟨rfl, hb5⟩
    have HB5 := hq (below_trans HB4.o hb5)
    clear hb5 HL2 HB4
    by_cases hn0 : n = 0
    · subst hn0
      go_wp2_with fail
      go_ret
      exact ⟨rfl, HB5.o.alloc HB5.o.size _⟩
    · have e1 : ((n : Int) != 0) = true := bne_iff_ne.2 (by omega)
      go_wp2_with fail
      go_ret
      exact ⟨rfl, HB5.o.alloc HB5.o.size _⟩
  · clear HIC
    simp only [lineZ, LineR.val] at HL1 HL2
    go_enter Tryd.func7, Tryd.ntmps7
    go_wp2_with fail
    refine (HSM.o _ HT.o HM.o).mono ?_
    rintro e w1 ⟨rfl, hb1⟩
    have HB1 := hq hb1
    clear hb1 HSM
    go_wp2_with fail
    refine (HA1.o _).mono ?_
    rintro e w2 ⟨rfl, hb2⟩
    have HB2 := hq (below_trans HB1.o hb2)
    clear hb2 HA1 HB1
    go_wp2_with fail
    refine (HL1.o _ (tabs_grow HT.o HB2.o)).mono ?_
    rintro e w3 ⟨rfl, hb3⟩
    have HB3 := hq (below_trans HB2.o hb3)
    clear hb3 HL1 HB2
    go_wp2_with fail
    generalize (⟨#[32, 32, 32, 32, 32, 32, 32, 32]⟩ : ByteArray).extract 0 n ++ s = T at *
    refine (HA2.o _).mono ?_
    rintro e w4 ⟨rfl, hb4⟩
    have HB4 := hq ((HB3.o.alloc HB3.o.size (.cells #[.int .i64 0, .int .i64 0, .int .i64 0, .int .i64 0, .int .i64 0, .int .i64 0, .int .i64 0, .int .i64 0, .int .i64 0, .int .i64 0] 26)).trans (hb4.mono (by have := HB3.o.size; rw [World.size_alloc]; omega)))
    clear hb4 HA2 HB3
    go_wp2_with fail
    refine (HL2.o _ (tabs_grow HT.o HB4.o)).mono ?_
    rintro e w5 ⟨rfl, hb5⟩
    have HB5 := hq (below_trans HB4.o hb5)
    clear hb5 HL2 HB4
    have e1 : ((q : Int) + (n : Int) != (q : Int) + (n : Int)) = false := by simp
    go_wp2_with fail
    go_ret
    exact ⟨rfl, HB5.o.alloc HB5.o.size _⟩
  · clear HIC
    have o1 := hok.mid
    have o2 := hok.hi
    have o3 := hok.key
    have o4 := hok.note
    clear hok
    rcases ko with _ | e <;> rcases no with _ | c
    ·
      have hx : (lineK kd s.size p (none) r0 r1 (none) 0).val = .agg #[.int .i64 (kd : Int), .int .i64 0, .int .i64 (s.size : Int), .int .i64 (p : Int), .int .i64 0, .int .i64 0, .int .i64 (r0 : Int), .int .i64 (r1 : Int), .int .i64 0, .int .i64 0] := by simp [lineK, LineR.val]
      have hy : (lineK kd s.size p (none) r0 r1 (none) n).val = .agg #[.int .i64 (kd : Int), .int .i64 0, .int .i64 ((s.size : Int) + (n : Int)), .int .i64 ((p : Int) + (n : Int)), .int .i64 0, .int .i64 0, .int .i64 ((r0 : Int) + (n : Int)), .int .i64 ((r1 : Int) + (n : Int)), .int .i64 0, .int .i64 0] := by simp [lineK, LineR.val]
      have HX := hq hx
      have HY := hq hy
      clear hx hy
      clear o3 o4
      go_enter Tryd.func7, Tryd.ntmps7
      go_wp2_with fail
      refine (HSM.o _ HT.o HM.o).mono ?_
      rintro e' w1 ⟨rfl, hb1⟩
      have HB1 := hq hb1
      clear hb1 HSM
      go_wp2_with fail
      refine (HA1.o _).mono ?_
      rintro e' w2 ⟨rfl, hb2⟩
      have HB2 := hq (below_trans HB1.o hb2)
      clear hb2 HA1 HB1
      go_wp2_with fail
      refine (HL1.o _ (tabs_grow HT.o HB2.o)).mono ?_
      rintro e' w3 ⟨rfl, hb3⟩
      dsimp only
      rw [HX.o]
      have HB3 := hq (below_trans HB2.o hb3)
      clear hb3 HL1 HB2
      go_wp2_with fail
      generalize (⟨#[32, 32, 32, 32, 32, 32, 32, 32]⟩ : ByteArray).extract 0 n ++ s = T at *
      refine (HA2.o _).mono ?_
      rintro e' w4 ⟨rfl, hb4⟩
      have HB4 := hq ((HB3.o.alloc HB3.o.size (.cells #[.int .i64 (kd : Int), .int .i64 0, .int .i64 (s.size : Int), .int .i64 (p : Int), .int .i64 0, .int .i64 0, .int .i64 (r0 : Int), .int .i64 (r1 : Int), .int .i64 0, .int .i64 0] 26)).trans (hb4.mono (by have := HB3.o.size; rw [World.size_alloc]; omega)))
      have HB39 := hq HB3.o.size
      have X1 := hq ((Whole.made w3 26 #[.int .i64 (kd : Int), .int .i64 0, .int .i64 (s.size : Int), .int .i64 (p : Int), .int .i64 0, .int .i64 0, .int .i64 (r0 : Int), .int .i64 (r1 : Int), .int .i64 0, .int .i64 0]).grow hb4)
      clear hb4 HA2 HB3
      go_wp2_with fail
      refine (HL2.o _ (tabs_grow HT.o HB4.o)).mono ?_
      rintro e' w5 ⟨rfl, hb5⟩
      dsimp only
      rw [HY.o]
      have HB5 := hq (below_trans HB4.o hb5)
      have X2 := hq ((X1.o.grow hb5).alloc (.cells #[.int .i64 (kd : Int), .int .i64 0, .int .i64 ((s.size : Int) + (n : Int)), .int .i64 ((p : Int) + (n : Int)), .int .i64 0, .int .i64 0, .int .i64 ((r0 : Int) + (n : Int)), .int .i64 ((r1 : Int) + (n : Int)), .int .i64 0, .int .i64 0] 26))
      have hb59 := hq hb5.size
      clear hb5 HL2 HB4
      have HB6 := hq (HB5.o.alloc HB5.o.size (.cells #[.int .i64 (kd : Int), .int .i64 0, .int .i64 ((s.size : Int) + (n : Int)), .int .i64 ((p : Int) + (n : Int)), .int .i64 0, .int .i64 0, .int .i64 ((r0 : Int) + (n : Int)), .int .i64 ((r1 : Int) + (n : Int)), .int .i64 0, .int .i64 0] 26))
      have ec : ((s.size : Int) + (n : Int) != (s.size : Int) + (n : Int)) = false := by simp
      have E1 : ∀ W : World, (Op.equalIn 10000 23 (.agg #[.int .i64 0, .int .i64 0]) (.agg #[.int .i64 0, .int .i64 0])).run Tryd.prog W = .ok true W := fun W => by rw [eq_span]; rfl
      have E3 := eq_line (kd : Int) 0 ((s.size : Int) + (n : Int)) ((p : Int) + (n : Int)) 0 0 ((r0 : Int) + (n : Int)) ((r1 : Int) + (n : Int)) 0 0
      have Y2 := hq (Whole.made w5 26 #[.int .i64 (kd : Int), .int .i64 0, .int .i64 ((s.size : Int) + (n : Int)), .int .i64 ((p : Int) + (n : Int)), .int .i64 0, .int .i64 0, .int .i64 ((r0 : Int) + (n : Int)), .int .i64 ((r1 : Int) + (n : Int)), .int .i64 0, .int .i64 0])
      have hlx : w3.heap.size < w5.heap.size := Nat.lt_of_lt_of_le X1.o.lt hb59.o
      have hwx := HB39.o
      go_upto_region 11 with fail
      generalize w5.alloc (.cells #[.int .i64 (kd : Int), .int .i64 0, .int .i64 ((s.size : Int) + (n : Int)), .int .i64 ((p : Int) + (n : Int)), .int .i64 0, .int .i64 0, .int .i64 ((r0 : Int) + (n : Int)), .int .i64 ((r1 : Int) + (n : Int)), .int .i64 0, .int .i64 0] 26) = v5 at *
      have X3 := hq (X2.o.alloc (.cells #[.int .i64 0, .int .i64 0] 23))
      have Y3 := hq (Y2.o.alloc (.cells #[.int .i64 0, .int .i64 0] 23))
      have N3 := hq (Whole.made v5 23 #[.int .i64 0, .int .i64 0])
      have HB7 := hq (HB6.o.alloc HB6.o.size (.cells #[.int .i64 0, .int .i64 0] 23))
      have hly := Y2.o.lt
      go_upto_region 12 with fail
      generalize v5.alloc (.cells #[.int .i64 0, .int .i64 0] 23) = v6 at *
      generalize w3.heap.size = bx at *
      generalize w5.heap.size = bY at *
      generalize v5.heap.size = bn at *
      have p0 := X3.o.at_ 0
      have f0 := X3.o.free 0
      have q0 := Y3.o.at_ 0
      have p1 := X3.o.at_ 1
      have f1 := X3.o.free 1
      have q1 := Y3.o.at_ 1
      have p2 := X3.o.at_ 2
      have f2 := X3.o.free 2
      have q2 := Y3.o.at_ 2
      have p3 := X3.o.at_ 3
      have f3 := X3.o.free 3
      have q3 := Y3.o.at_ 3
      have p4 := X3.o.at_ 4
      have f4 := X3.o.free 4
      have q4 := Y3.o.at_ 4
      have p5 := X3.o.at_ 5
      have f5 := X3.o.free 5
      have q5 := Y3.o.at_ 5
      have p6 := X3.o.at_ 6
      have f6 := X3.o.free 6
      have q6 := Y3.o.at_ 6
      have p7 := X3.o.at_ 7
      have f7 := X3.o.free 7
      have q7 := Y3.o.at_ 7
      have p8 := X3.o.at_ 8
      have f8 := X3.o.free 8
      have q8 := Y3.o.at_ 8
      have p9 := X3.o.at_ 9
      have f9 := X3.o.free 9
      have q9 := Y3.o.at_ 9
      have z0 := N3.o.at_ 0
      have z1 := N3.o.at_ 1
      clear X1 X2 X3 Y2 Y3 N3 HX HY HB5 HB6 hb59 HB39
      go_wp2_with fail
      go_ret
      exact ⟨rfl, ((((HB7.o.setCell hwx _).setCell hwx _).setCell hwx _).setCell hwx _)⟩
    ·
      have hx : (lineK kd s.size p (none) r0 r1 (some c) 0).val = .agg #[.int .i64 (kd : Int), .int .i64 0, .int .i64 (s.size : Int), .int .i64 (p : Int), .int .i64 0, .int .i64 0, .int .i64 (r0 : Int), .int .i64 (r1 : Int), .int .i64 (c : Int), .int .i64 (s.size : Int)] := by simp [lineK, LineR.val]
      have hy : (lineK kd s.size p (none) r0 r1 (some c) n).val = .agg #[.int .i64 (kd : Int), .int .i64 0, .int .i64 ((s.size : Int) + (n : Int)), .int .i64 ((p : Int) + (n : Int)), .int .i64 0, .int .i64 0, .int .i64 ((r0 : Int) + (n : Int)), .int .i64 ((r1 : Int) + (n : Int)), .int .i64 ((c : Int) + (n : Int)), .int .i64 ((s.size : Int) + (n : Int))] := by simp [lineK, LineR.val]
      have HX := hq hx
      have HY := hq hy
      clear hx hy
      obtain ⟨g4, g5, -, -⟩ := o4 c rfl
      clear o3 o4
      go_enter Tryd.func7, Tryd.ntmps7
      go_wp2_with fail
      refine (HSM.o _ HT.o HM.o).mono ?_
      rintro e' w1 ⟨rfl, hb1⟩
      have HB1 := hq hb1
      clear hb1 HSM
      go_wp2_with fail
      refine (HA1.o _).mono ?_
      rintro e' w2 ⟨rfl, hb2⟩
      have HB2 := hq (below_trans HB1.o hb2)
      clear hb2 HA1 HB1
      go_wp2_with fail
      refine (HL1.o _ (tabs_grow HT.o HB2.o)).mono ?_
      rintro e' w3 ⟨rfl, hb3⟩
      dsimp only
      rw [HX.o]
      have HB3 := hq (below_trans HB2.o hb3)
      clear hb3 HL1 HB2
      go_wp2_with fail
      generalize (⟨#[32, 32, 32, 32, 32, 32, 32, 32]⟩ : ByteArray).extract 0 n ++ s = T at *
      refine (HA2.o _).mono ?_
      rintro e' w4 ⟨rfl, hb4⟩
      have HB4 := hq ((HB3.o.alloc HB3.o.size (.cells #[.int .i64 (kd : Int), .int .i64 0, .int .i64 (s.size : Int), .int .i64 (p : Int), .int .i64 0, .int .i64 0, .int .i64 (r0 : Int), .int .i64 (r1 : Int), .int .i64 (c : Int), .int .i64 (s.size : Int)] 26)).trans (hb4.mono (by have := HB3.o.size; rw [World.size_alloc]; omega)))
      have HB39 := hq HB3.o.size
      have X1 := hq ((Whole.made w3 26 #[.int .i64 (kd : Int), .int .i64 0, .int .i64 (s.size : Int), .int .i64 (p : Int), .int .i64 0, .int .i64 0, .int .i64 (r0 : Int), .int .i64 (r1 : Int), .int .i64 (c : Int), .int .i64 (s.size : Int)]).grow hb4)
      clear hb4 HA2 HB3
      go_wp2_with fail
      refine (HL2.o _ (tabs_grow HT.o HB4.o)).mono ?_
      rintro e' w5 ⟨rfl, hb5⟩
      dsimp only
      rw [HY.o]
      have HB5 := hq (below_trans HB4.o hb5)
      have X2 := hq ((X1.o.grow hb5).alloc (.cells #[.int .i64 (kd : Int), .int .i64 0, .int .i64 ((s.size : Int) + (n : Int)), .int .i64 ((p : Int) + (n : Int)), .int .i64 0, .int .i64 0, .int .i64 ((r0 : Int) + (n : Int)), .int .i64 ((r1 : Int) + (n : Int)), .int .i64 ((c : Int) + (n : Int)), .int .i64 ((s.size : Int) + (n : Int))] 26))
      have hb59 := hq hb5.size
      clear hb5 HL2 HB4
      have HB6 := hq (HB5.o.alloc HB5.o.size (.cells #[.int .i64 (kd : Int), .int .i64 0, .int .i64 ((s.size : Int) + (n : Int)), .int .i64 ((p : Int) + (n : Int)), .int .i64 0, .int .i64 0, .int .i64 ((r0 : Int) + (n : Int)), .int .i64 ((r1 : Int) + (n : Int)), .int .i64 ((c : Int) + (n : Int)), .int .i64 ((s.size : Int) + (n : Int))] 26))
      have ec : ((s.size : Int) + (n : Int) != (s.size : Int) + (n : Int)) = false := by simp
      have E1 : ∀ W : World, (Op.equalIn 10000 23 (.agg #[.int .i64 0, .int .i64 0]) (.agg #[.int .i64 0, .int .i64 0])).run Tryd.prog W = .ok true W := fun W => by rw [eq_span]; rfl
      have E2 : ∀ W : World, (Op.equalIn 10000 23 (.agg #[.int .i64 (c : Int), .int .i64 (s.size : Int)]) (.agg #[.int .i64 0, .int .i64 0])).run Tryd.prog W = .ok false W := fun W => by rw [eq_span, show ((s.size : Int) == 0) = false from beq_eq_false_iff_ne.2 (by omega), Bool.and_false]
      have E3 := eq_line (kd : Int) 0 ((s.size : Int) + (n : Int)) ((p : Int) + (n : Int)) 0 0 ((r0 : Int) + (n : Int)) ((r1 : Int) + (n : Int)) ((c : Int) + (n : Int)) ((s.size : Int) + (n : Int))
      have Y2 := hq (Whole.made w5 26 #[.int .i64 (kd : Int), .int .i64 0, .int .i64 ((s.size : Int) + (n : Int)), .int .i64 ((p : Int) + (n : Int)), .int .i64 0, .int .i64 0, .int .i64 ((r0 : Int) + (n : Int)), .int .i64 ((r1 : Int) + (n : Int)), .int .i64 ((c : Int) + (n : Int)), .int .i64 ((s.size : Int) + (n : Int))])
      have hlx : w3.heap.size < w5.heap.size := Nat.lt_of_lt_of_le X1.o.lt hb59.o
      have hwx := HB39.o
      go_upto_region 11 with fail
      generalize w5.alloc (.cells #[.int .i64 (kd : Int), .int .i64 0, .int .i64 ((s.size : Int) + (n : Int)), .int .i64 ((p : Int) + (n : Int)), .int .i64 0, .int .i64 0, .int .i64 ((r0 : Int) + (n : Int)), .int .i64 ((r1 : Int) + (n : Int)), .int .i64 ((c : Int) + (n : Int)), .int .i64 ((s.size : Int) + (n : Int))] 26) = v5 at *
      have X3 := hq (X2.o.alloc (.cells #[.int .i64 0, .int .i64 0] 23))
      have Y3 := hq (Y2.o.alloc (.cells #[.int .i64 0, .int .i64 0] 23))
      have N3 := hq (Whole.made v5 23 #[.int .i64 0, .int .i64 0])
      have HB7 := hq (HB6.o.alloc HB6.o.size (.cells #[.int .i64 0, .int .i64 0] 23))
      have hly := Y2.o.lt
      go_upto_region 12 with fail
      generalize v5.alloc (.cells #[.int .i64 0, .int .i64 0] 23) = v6 at *
      generalize w3.heap.size = bx at *
      generalize w5.heap.size = bY at *
      generalize v5.heap.size = bn at *
      have p0 := X3.o.at_ 0
      have f0 := X3.o.free 0
      have q0 := Y3.o.at_ 0
      have p1 := X3.o.at_ 1
      have f1 := X3.o.free 1
      have q1 := Y3.o.at_ 1
      have p2 := X3.o.at_ 2
      have f2 := X3.o.free 2
      have q2 := Y3.o.at_ 2
      have p3 := X3.o.at_ 3
      have f3 := X3.o.free 3
      have q3 := Y3.o.at_ 3
      have p4 := X3.o.at_ 4
      have f4 := X3.o.free 4
      have q4 := Y3.o.at_ 4
      have p5 := X3.o.at_ 5
      have f5 := X3.o.free 5
      have q5 := Y3.o.at_ 5
      have p6 := X3.o.at_ 6
      have f6 := X3.o.free 6
      have q6 := Y3.o.at_ 6
      have p7 := X3.o.at_ 7
      have f7 := X3.o.free 7
      have q7 := Y3.o.at_ 7
      have p8 := X3.o.at_ 8
      have f8 := X3.o.free 8
      have q8 := Y3.o.at_ 8
      have p9 := X3.o.at_ 9
      have f9 := X3.o.free 9
      have q9 := Y3.o.at_ 9
      have z0 := N3.o.at_ 0
      have z1 := N3.o.at_ 1
      clear X1 X2 X3 Y2 Y3 N3 HX HY HB5 HB6 hb59 HB39
      go_wp2_with fail
      go_ret
      exact ⟨rfl, ((((((HB7.o.setCell hwx _).setCell hwx _).setCell hwx _).setCell hwx _).setCell hwx _).setCell hwx _)⟩
    ·
      have hx : (lineK kd s.size p (some e) r0 r1 (none) 0).val = .agg #[.int .i64 (kd : Int), .int .i64 0, .int .i64 (s.size : Int), .int .i64 (p : Int), .int .i64 (p : Int), .int .i64 (e : Int), .int .i64 (r0 : Int), .int .i64 (r1 : Int), .int .i64 0, .int .i64 0] := by simp [lineK, LineR.val]
      have hy : (lineK kd s.size p (some e) r0 r1 (none) n).val = .agg #[.int .i64 (kd : Int), .int .i64 0, .int .i64 ((s.size : Int) + (n : Int)), .int .i64 ((p : Int) + (n : Int)), .int .i64 ((p : Int) + (n : Int)), .int .i64 ((e : Int) + (n : Int)), .int .i64 ((r0 : Int) + (n : Int)), .int .i64 ((r1 : Int) + (n : Int)), .int .i64 0, .int .i64 0] := by simp [lineK, LineR.val]
      have HX := hq hx
      have HY := hq hy
      clear hx hy
      obtain ⟨-, g2, g3, -⟩ := o3 e rfl
      clear o3 o4
      go_enter Tryd.func7, Tryd.ntmps7
      go_wp2_with fail
      refine (HSM.o _ HT.o HM.o).mono ?_
      rintro e' w1 ⟨rfl, hb1⟩
      have HB1 := hq hb1
      clear hb1 HSM
      go_wp2_with fail
      refine (HA1.o _).mono ?_
      rintro e' w2 ⟨rfl, hb2⟩
      have HB2 := hq (below_trans HB1.o hb2)
      clear hb2 HA1 HB1
      go_wp2_with fail
      refine (HL1.o _ (tabs_grow HT.o HB2.o)).mono ?_
      rintro e' w3 ⟨rfl, hb3⟩
      dsimp only
      rw [HX.o]
      have HB3 := hq (below_trans HB2.o hb3)
      clear hb3 HL1 HB2
      go_wp2_with fail
      generalize (⟨#[32, 32, 32, 32, 32, 32, 32, 32]⟩ : ByteArray).extract 0 n ++ s = T at *
      refine (HA2.o _).mono ?_
      rintro e' w4 ⟨rfl, hb4⟩
      have HB4 := hq ((HB3.o.alloc HB3.o.size (.cells #[.int .i64 (kd : Int), .int .i64 0, .int .i64 (s.size : Int), .int .i64 (p : Int), .int .i64 (p : Int), .int .i64 (e : Int), .int .i64 (r0 : Int), .int .i64 (r1 : Int), .int .i64 0, .int .i64 0] 26)).trans (hb4.mono (by have := HB3.o.size; rw [World.size_alloc]; omega)))
      have HB39 := hq HB3.o.size
      have X1 := hq ((Whole.made w3 26 #[.int .i64 (kd : Int), .int .i64 0, .int .i64 (s.size : Int), .int .i64 (p : Int), .int .i64 (p : Int), .int .i64 (e : Int), .int .i64 (r0 : Int), .int .i64 (r1 : Int), .int .i64 0, .int .i64 0]).grow hb4)
      clear hb4 HA2 HB3
      go_wp2_with fail
      refine (HL2.o _ (tabs_grow HT.o HB4.o)).mono ?_
      rintro e' w5 ⟨rfl, hb5⟩
      dsimp only
      rw [HY.o]
      have HB5 := hq (below_trans HB4.o hb5)
      have X2 := hq ((X1.o.grow hb5).alloc (.cells #[.int .i64 (kd : Int), .int .i64 0, .int .i64 ((s.size : Int) + (n : Int)), .int .i64 ((p : Int) + (n : Int)), .int .i64 ((p : Int) + (n : Int)), .int .i64 ((e : Int) + (n : Int)), .int .i64 ((r0 : Int) + (n : Int)), .int .i64 ((r1 : Int) + (n : Int)), .int .i64 0, .int .i64 0] 26))
      have hb59 := hq hb5.size
      clear hb5 HL2 HB4
      have HB6 := hq (HB5.o.alloc HB5.o.size (.cells #[.int .i64 (kd : Int), .int .i64 0, .int .i64 ((s.size : Int) + (n : Int)), .int .i64 ((p : Int) + (n : Int)), .int .i64 ((p : Int) + (n : Int)), .int .i64 ((e : Int) + (n : Int)), .int .i64 ((r0 : Int) + (n : Int)), .int .i64 ((r1 : Int) + (n : Int)), .int .i64 0, .int .i64 0] 26))
      have ec : ((s.size : Int) + (n : Int) != (s.size : Int) + (n : Int)) = false := by simp
      have E1 : ∀ W : World, (Op.equalIn 10000 23 (.agg #[.int .i64 (p : Int), .int .i64 (e : Int)]) (.agg #[.int .i64 0, .int .i64 0])).run Tryd.prog W = .ok false W := fun W => by rw [eq_span, show ((e : Int) == 0) = false from beq_eq_false_iff_ne.2 (by omega), Bool.and_false]
      have E2 : ∀ W : World, (Op.equalIn 10000 23 (.agg #[.int .i64 0, .int .i64 0]) (.agg #[.int .i64 0, .int .i64 0])).run Tryd.prog W = .ok true W := fun W => by rw [eq_span]; rfl
      have E3 := eq_line (kd : Int) 0 ((s.size : Int) + (n : Int)) ((p : Int) + (n : Int)) ((p : Int) + (n : Int)) ((e : Int) + (n : Int)) ((r0 : Int) + (n : Int)) ((r1 : Int) + (n : Int)) 0 0
      have Y2 := hq (Whole.made w5 26 #[.int .i64 (kd : Int), .int .i64 0, .int .i64 ((s.size : Int) + (n : Int)), .int .i64 ((p : Int) + (n : Int)), .int .i64 ((p : Int) + (n : Int)), .int .i64 ((e : Int) + (n : Int)), .int .i64 ((r0 : Int) + (n : Int)), .int .i64 ((r1 : Int) + (n : Int)), .int .i64 0, .int .i64 0])
      have hlx : w3.heap.size < w5.heap.size := Nat.lt_of_lt_of_le X1.o.lt hb59.o
      have hwx := HB39.o
      go_upto_region 11 with fail
      generalize w5.alloc (.cells #[.int .i64 (kd : Int), .int .i64 0, .int .i64 ((s.size : Int) + (n : Int)), .int .i64 ((p : Int) + (n : Int)), .int .i64 ((p : Int) + (n : Int)), .int .i64 ((e : Int) + (n : Int)), .int .i64 ((r0 : Int) + (n : Int)), .int .i64 ((r1 : Int) + (n : Int)), .int .i64 0, .int .i64 0] 26) = v5 at *
      have X3 := hq (X2.o.alloc (.cells #[.int .i64 0, .int .i64 0] 23))
      have Y3 := hq (Y2.o.alloc (.cells #[.int .i64 0, .int .i64 0] 23))
      have N3 := hq (Whole.made v5 23 #[.int .i64 0, .int .i64 0])
      have HB7 := hq (HB6.o.alloc HB6.o.size (.cells #[.int .i64 0, .int .i64 0] 23))
      have hly := Y2.o.lt
      go_upto_region 12 with fail
      generalize v5.alloc (.cells #[.int .i64 0, .int .i64 0] 23) = v6 at *
      generalize w3.heap.size = bx at *
      generalize w5.heap.size = bY at *
      generalize v5.heap.size = bn at *
      have p0 := X3.o.at_ 0
      have f0 := X3.o.free 0
      have q0 := Y3.o.at_ 0
      have p1 := X3.o.at_ 1
      have f1 := X3.o.free 1
      have q1 := Y3.o.at_ 1
      have p2 := X3.o.at_ 2
      have f2 := X3.o.free 2
      have q2 := Y3.o.at_ 2
      have p3 := X3.o.at_ 3
      have f3 := X3.o.free 3
      have q3 := Y3.o.at_ 3
      have p4 := X3.o.at_ 4
      have f4 := X3.o.free 4
      have q4 := Y3.o.at_ 4
      have p5 := X3.o.at_ 5
      have f5 := X3.o.free 5
      have q5 := Y3.o.at_ 5
      have p6 := X3.o.at_ 6
      have f6 := X3.o.free 6
      have q6 := Y3.o.at_ 6
      have p7 := X3.o.at_ 7
      have f7 := X3.o.free 7
      have q7 := Y3.o.at_ 7
      have p8 := X3.o.at_ 8
      have f8 := X3.o.free 8
      have q8 := Y3.o.at_ 8
      have p9 := X3.o.at_ 9
      have f9 := X3.o.free 9
      have q9 := Y3.o.at_ 9
      have z0 := N3.o.at_ 0
      have z1 := N3.o.at_ 1
      clear X1 X2 X3 Y2 Y3 N3 HX HY HB5 HB6 hb59 HB39
      go_wp2_with fail
      go_ret
      exact ⟨rfl, ((((((HB7.o.setCell hwx _).setCell hwx _).setCell hwx _).setCell hwx _).setCell hwx _).setCell hwx _)⟩
    ·
      have hx : (lineK kd s.size p (some e) r0 r1 (some c) 0).val = .agg #[.int .i64 (kd : Int), .int .i64 0, .int .i64 (s.size : Int), .int .i64 (p : Int), .int .i64 (p : Int), .int .i64 (e : Int), .int .i64 (r0 : Int), .int .i64 (r1 : Int), .int .i64 (c : Int), .int .i64 (s.size : Int)] := by simp [lineK, LineR.val]
      have hy : (lineK kd s.size p (some e) r0 r1 (some c) n).val = .agg #[.int .i64 (kd : Int), .int .i64 0, .int .i64 ((s.size : Int) + (n : Int)), .int .i64 ((p : Int) + (n : Int)), .int .i64 ((p : Int) + (n : Int)), .int .i64 ((e : Int) + (n : Int)), .int .i64 ((r0 : Int) + (n : Int)), .int .i64 ((r1 : Int) + (n : Int)), .int .i64 ((c : Int) + (n : Int)), .int .i64 ((s.size : Int) + (n : Int))] := by simp [lineK, LineR.val]
      have HX := hq hx
      have HY := hq hy
      clear hx hy
      obtain ⟨-, g2, g3, -⟩ := o3 e rfl
      obtain ⟨g4, g5, -, -⟩ := o4 c rfl
      clear o3 o4
      go_enter Tryd.func7, Tryd.ntmps7
      go_wp2_with fail
      refine (HSM.o _ HT.o HM.o).mono ?_
      rintro e' w1 ⟨rfl, hb1⟩
      have HB1 := hq hb1
      clear hb1 HSM
      go_wp2_with fail
      refine (HA1.o _).mono ?_
      rintro e' w2 ⟨rfl, hb2⟩
      have HB2 := hq (below_trans HB1.o hb2)
      clear hb2 HA1 HB1
      go_wp2_with fail
      refine (HL1.o _ (tabs_grow HT.o HB2.o)).mono ?_
      rintro e' w3 ⟨rfl, hb3⟩
      dsimp only
      rw [HX.o]
      have HB3 := hq (below_trans HB2.o hb3)
      clear hb3 HL1 HB2
      go_wp2_with fail
      generalize (⟨#[32, 32, 32, 32, 32, 32, 32, 32]⟩ : ByteArray).extract 0 n ++ s = T at *
      refine (HA2.o _).mono ?_
      rintro e' w4 ⟨rfl, hb4⟩
      have HB4 := hq ((HB3.o.alloc HB3.o.size (.cells #[.int .i64 (kd : Int), .int .i64 0, .int .i64 (s.size : Int), .int .i64 (p : Int), .int .i64 (p : Int), .int .i64 (e : Int), .int .i64 (r0 : Int), .int .i64 (r1 : Int), .int .i64 (c : Int), .int .i64 (s.size : Int)] 26)).trans (hb4.mono (by have := HB3.o.size; rw [World.size_alloc]; omega)))
      have HB39 := hq HB3.o.size
      have X1 := hq ((Whole.made w3 26 #[.int .i64 (kd : Int), .int .i64 0, .int .i64 (s.size : Int), .int .i64 (p : Int), .int .i64 (p : Int), .int .i64 (e : Int), .int .i64 (r0 : Int), .int .i64 (r1 : Int), .int .i64 (c : Int), .int .i64 (s.size : Int)]).grow hb4)
      clear hb4 HA2 HB3
      go_wp2_with fail
      refine (HL2.o _ (tabs_grow HT.o HB4.o)).mono ?_
      rintro e' w5 ⟨rfl, hb5⟩
      dsimp only
      rw [HY.o]
      have HB5 := hq (below_trans HB4.o hb5)
      have X2 := hq ((X1.o.grow hb5).alloc (.cells #[.int .i64 (kd : Int), .int .i64 0, .int .i64 ((s.size : Int) + (n : Int)), .int .i64 ((p : Int) + (n : Int)), .int .i64 ((p : Int) + (n : Int)), .int .i64 ((e : Int) + (n : Int)), .int .i64 ((r0 : Int) + (n : Int)), .int .i64 ((r1 : Int) + (n : Int)), .int .i64 ((c : Int) + (n : Int)), .int .i64 ((s.size : Int) + (n : Int))] 26))
      have hb59 := hq hb5.size
      clear hb5 HL2 HB4
      have HB6 := hq (HB5.o.alloc HB5.o.size (.cells #[.int .i64 (kd : Int), .int .i64 0, .int .i64 ((s.size : Int) + (n : Int)), .int .i64 ((p : Int) + (n : Int)), .int .i64 ((p : Int) + (n : Int)), .int .i64 ((e : Int) + (n : Int)), .int .i64 ((r0 : Int) + (n : Int)), .int .i64 ((r1 : Int) + (n : Int)), .int .i64 ((c : Int) + (n : Int)), .int .i64 ((s.size : Int) + (n : Int))] 26))
      have ec : ((s.size : Int) + (n : Int) != (s.size : Int) + (n : Int)) = false := by simp
      have E1 : ∀ W : World, (Op.equalIn 10000 23 (.agg #[.int .i64 (p : Int), .int .i64 (e : Int)]) (.agg #[.int .i64 0, .int .i64 0])).run Tryd.prog W = .ok false W := fun W => by rw [eq_span, show ((e : Int) == 0) = false from beq_eq_false_iff_ne.2 (by omega), Bool.and_false]
      have E2 : ∀ W : World, (Op.equalIn 10000 23 (.agg #[.int .i64 (c : Int), .int .i64 (s.size : Int)]) (.agg #[.int .i64 0, .int .i64 0])).run Tryd.prog W = .ok false W := fun W => by rw [eq_span, show ((s.size : Int) == 0) = false from beq_eq_false_iff_ne.2 (by omega), Bool.and_false]
      have E3 := eq_line (kd : Int) 0 ((s.size : Int) + (n : Int)) ((p : Int) + (n : Int)) ((p : Int) + (n : Int)) ((e : Int) + (n : Int)) ((r0 : Int) + (n : Int)) ((r1 : Int) + (n : Int)) ((c : Int) + (n : Int)) ((s.size : Int) + (n : Int))
      have Y2 := hq (Whole.made w5 26 #[.int .i64 (kd : Int), .int .i64 0, .int .i64 ((s.size : Int) + (n : Int)), .int .i64 ((p : Int) + (n : Int)), .int .i64 ((p : Int) + (n : Int)), .int .i64 ((e : Int) + (n : Int)), .int .i64 ((r0 : Int) + (n : Int)), .int .i64 ((r1 : Int) + (n : Int)), .int .i64 ((c : Int) + (n : Int)), .int .i64 ((s.size : Int) + (n : Int))])
      have hlx : w3.heap.size < w5.heap.size := Nat.lt_of_lt_of_le X1.o.lt hb59.o
      have hwx := HB39.o
      go_upto_region 11 with fail
      generalize w5.alloc (.cells #[.int .i64 (kd : Int), .int .i64 0, .int .i64 ((s.size : Int) + (n : Int)), .int .i64 ((p : Int) + (n : Int)), .int .i64 ((p : Int) + (n : Int)), .int .i64 ((e : Int) + (n : Int)), .int .i64 ((r0 : Int) + (n : Int)), .int .i64 ((r1 : Int) + (n : Int)), .int .i64 ((c : Int) + (n : Int)), .int .i64 ((s.size : Int) + (n : Int))] 26) = v5 at *
      have X3 := hq (X2.o.alloc (.cells #[.int .i64 0, .int .i64 0] 23))
      have Y3 := hq (Y2.o.alloc (.cells #[.int .i64 0, .int .i64 0] 23))
      have N3 := hq (Whole.made v5 23 #[.int .i64 0, .int .i64 0])
      have HB7 := hq (HB6.o.alloc HB6.o.size (.cells #[.int .i64 0, .int .i64 0] 23))
      have hly := Y2.o.lt
      go_upto_region 12 with fail
      generalize v5.alloc (.cells #[.int .i64 0, .int .i64 0] 23) = v6 at *
      generalize w3.heap.size = bx at *
      generalize w5.heap.size = bY at *
      generalize v5.heap.size = bn at *
      have p0 := X3.o.at_ 0
      have f0 := X3.o.free 0
      have q0 := Y3.o.at_ 0
      have p1 := X3.o.at_ 1
      have f1 := X3.o.free 1
      have q1 := Y3.o.at_ 1
      have p2 := X3.o.at_ 2
      have f2 := X3.o.free 2
      have q2 := Y3.o.at_ 2
      have p3 := X3.o.at_ 3
      have f3 := X3.o.free 3
      have q3 := Y3.o.at_ 3
      have p4 := X3.o.at_ 4
      have f4 := X3.o.free 4
      have q4 := Y3.o.at_ 4
      have p5 := X3.o.at_ 5
      have f5 := X3.o.free 5
      have q5 := Y3.o.at_ 5
      have p6 := X3.o.at_ 6
      have f6 := X3.o.free 6
      have q6 := Y3.o.at_ 6
      have p7 := X3.o.at_ 7
      have f7 := X3.o.free 7
      have q7 := Y3.o.at_ 7
      have p8 := X3.o.at_ 8
      have f8 := X3.o.free 8
      have q8 := Y3.o.at_ 8
      have p9 := X3.o.at_ 9
      have f9 := X3.o.free 9
      have q9 := Y3.o.at_ 9
      have z0 := N3.o.at_ 0
      have z1 := N3.o.at_ 1
      clear X1 X2 X3 Y2 Y3 N3 HX HY HB5 HB6 hb59 HB39
      go_wp2_with fail
      go_ret
      exact ⟨rfl, ((((((((HB7.o.setCell hwx _).setCell hwx _).setCell hwx _).setCell hwx _).setCell hwx _).setCell hwx _).setCell hwx _).setCell hwx _)⟩
end Go.Proofs.YtekihjffefokjaaDoor
