/-
  WALKS: value.Sorted, Copy: remake in two orders.
-/
import Derived.Test.YtfibmmmbpfnccaaGreatDoorVtX
namespace Go.Proofs.YtfibmmmbpfnccaaGreatDoor
open Go.RowKit

/-- a tree that remake takes -/
def Rem1 (v : Vl) : Prop := Good v ∧ v.size ≤ 1000000
theorem Rem1.items {k : Int} {t : Bs} {ks : List Bs} {is : List Vl} (h : Rem1 (.mk k t ks is)) : ∀ x ∈ is, Rem1 x := fun x hx => by
  refine ⟨h.1.items x hx, ?_⟩
  have h1 := h.2
  simp only [Vl.size] at h1
  have := Vl.sizes_le x hx
  omega
def ordR (v : Vl) : List Nat := List.range v.is.length
theorem rem_len {v : Vl} (h : Rem1 v) : v.is.length ≤ 1000000 := by
  obtain ⟨k, t, ks, is⟩ := v
  have h1 := h.2
  simp only [Vl.size] at h1
  have := Vl.sizes_length is
  simp only [Vl.is]
  omega
theorem ordOk_R : OrdOk ordR Rem1 where
  lt k t ks is _ i hi := List.mem_range.1 hi
  keys k t ks is h h6 := (h.1.obj h6).1
  len v h := by unfold ordR; rw [List.length_range]; exact rem_len h
  items k t ks is h := h.items
theorem ordK_lt (v : Vl) : ∀ i ∈ ordK v, i < v.is.length := fun i hi => by
  unfold ordK at hi
  split at hi
  · exact ordN_lt i hi
  · exact List.mem_range.1 hi
theorem ordOk_K : OrdOk ordK Rem1 where
  lt k t ks is _ i hi := ordK_lt _ i hi
  keys k t ks is h h6 := (h.1.obj h6).1
  len v h := by rw [ordK_len]; exact rem_len h
  items k t ks is h := h.items
theorem Good.nokeys {k : Int} {t : Bs} {ks : List Bs} {is : List Vl} (h : Good (.mk k t ks is)) (h6 : k ≠ 6) : ks = [] := by
  have h1 := h.node
  rw [nodeM_mk] at h1
  by_cases h5 : k = 5
  · rw [if_pos h5] at h1
    simp only [Bool.and_eq_true, decide_eq_true_eq] at h1
    exact h1.2
  · rw [if_neg h5, if_neg h6] at h1
    simp only [Bool.and_eq_true, decide_eq_true_eq] at h1
    exact h1.1.1
theorem range_getD {α : Type} (l : List α) (d : α) : (List.range l.length).map (fun i => l.getD i d) = l := by
  apply List.ext_getElem
  · simp
  · intro i h1 h2
    simp [h2]
theorem remV_R : ∀ v : Vl, Good v → remV ordR v = v := Vl.ind (fun k t ks is ih h => by
  have hi : remL ordR is = is := by
    rw [remL_map]
    conv => rhs; rw [← List.map_id is]
    exact List.map_congr_left (fun x hx => ih x hx (h.items x hx))
  have ho : ordR (.mk k t ks is) = List.range is.length := rfl
  simp only [remV]
  rw [ho, hi, range_getD]
  congr 1
  by_cases h6 : k = 6
  · rw [if_pos h6]
    have hl := (h.obj h6).1
    rw [← hl]
    exact range_getD ks []
  · rw [if_neg h6, h.nokeys h6])
theorem remV_K : ∀ v : Vl, Good v → remV ordK v = sortV v := Vl.ind (fun k t ks is ih h => by
  have hi : remL ordK is = is.map sortV := by
    rw [remL_map]
    exact List.map_congr_left (fun x hx => ih x hx (h.items x hx))
  by_cases h6 : k = 6
  · subst h6
    obtain ⟨h1, _, h2⟩ := h.obj rfl
    have hb : ByKey ks is.length (ordN ks is.length) := byKey_merge h2 h1
    have ho : ordK (.mk 6 t ks is) = ordN ks is.length := by
      show (if (6 : Int) = 6 then ordN ks is.length else _) = _
      rw [if_pos rfl]
    rw [sortV_obj h1 h2 hb]
    simp only [remV]
    rw [ho, hi, if_pos trivial]
    congr 1
    refine List.map_congr_left (fun i hi' => ?_)
    have := ordN_lt i hi'
    simp [this]
  · have ho : ordK (.mk k t ks is) = List.range is.length := by
      show (if k = 6 then _ else List.range is.length) = _
      rw [if_neg h6]
    rw [sortV_else h6]
    simp only [remV]
    rw [ho, hi, if_neg h6]
    congr 1
    have := range_getD (is.map sortV) default
    rw [List.length_map] at this
    exact this)
theorem enter_stand (args : Array Value) (w : World) : (callFunc 64 args).run Tryz.prog w = .ok (.enter 64 args) w := by kernel_rfl
theorem enter_bykey (args : Array Value) (w : World) : (callFunc 77 args).run Tryz.prog w = .ok (.enter 77 args) w := by kernel_rfl
/-- remake in the order in which the items stand: the same tree, in new memory -/
theorem remR_any (x : Vt) (w : World) (hok : x.Ok w) (hr : Rem1 x.m) : Calls Tryz.prog 63 #[x.v, .func (.func 64) #[] #[]] w (RemPost x.m w) := by
  have h := remake_any (w0 := w) ordOk_R enter_stand (fun y W _ hy hg => by
    have h1 := stand_any y W (by have := rem_len hg; cases y; rw [Vt.m_mk] at this; simpa [Vl.is, Vt.is] using this)
    have e : ordR y.m = List.range y.is.length := by cases y; rw [Vt.m_mk]; unfold ordR; simp [Vl.is, Vt.is]
    rw [e]; exact h1) x w (Below.refl _ _) hok hr
  rw [remV_R _ hr.1] at h
  exact h
theorem remK_any (x : Vt) (w : World) (hok : x.Ok w) (hr : Rem1 x.m) : Calls Tryz.prog 63 #[x.v, .func (.func 77) #[] #[]] w (RemPost (sortV x.m) w) := by
  have h := remake_any (w0 := w) ordOk_K enter_bykey (fun y W _ hy hg => by
    refine bykey_any y W hy (by have := rem_len hg; cases y; rw [Vt.m_mk] at this; simpa [Vl.is, Vt.is] using this) (fun h6 => ?_)
    cases y
    rw [Vt.m_mk] at hg
    have h2 := hg.1.obj h6
    rw [List.length_map] at h2
    exact ⟨h2.1, h2.2.2⟩) x w (Below.refl _ _) hok hr
  rw [remV_K _ hr.1] at h
  exact h
end Go.Proofs.YtfibmmmbpfnccaaGreatDoor
