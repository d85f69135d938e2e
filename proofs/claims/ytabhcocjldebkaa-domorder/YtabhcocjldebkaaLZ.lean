/- Plain facts on domains that the laws want: values and domains, there and back; lines, there and back. -/
import Derived.Test.YtabhcocjldebkaaLY
namespace Go.Proofs.Ytabhcocjldebkaa
open Go.RowKit
set_option linter.unusedVariables false

theorem nodup_len {a b : List Int} (ha : Up a) (hb : b.Nodup) (h : ∀ v, v ∈ a ↔ v ∈ b) : a.length = b.length := by
  have hn : a.Nodup := by
    unfold Up at ha
    exact ha.imp fun hab => by omega
  exact ((List.perm_ext_iff_of_nodup hn hb).2 h).length_eq
theorem up_nodup {a : List Int} (ha : Up a) : a.Nodup := by
  unfold Up at ha
  exact ha.imp fun hab => by omega
theorem of_vals {a : List (Int × Int)} (hw : Wf a) (hv : Vb a) (hs : sizeR a ≤ 4096) : ofRes (vals a) = a ∧ ofErr (vals a) = 0 := by
  have hall : (vals a).all vl = true := List.all_eq_true.2 fun v h => vl_mk (hv.mem (mem_vals.1 h))
  have hl : (sortedL (vals a)).length ≤ 4096 := by
    have h1 := sizeR_vals hw.lohi
    have h2 := sortedL_len (vals a)
    omega
  obtain ⟨h1, h2⟩ := ofErr_ok hall (by omega)
  refine ⟨?_, h1⟩
  rw [h2]
  obtain ⟨h3, h4⟩ := dm_spec (vals a)
  exact h3.eq hw fun v => (h4 v).trans mem_vals
theorem parts_join {a b : List (Int × Int)} (ha : Wf a) (va : Vb a) (hb : Wf b) (vb : Vb b) : sameR (joinR (meetR a b) (minusR a b)) a = true := by
  obtain ⟨x1, x2⟩ := meetR_spec ha.gp hb.gp
  obtain ⟨y1, y2⟩ := minusR_spec ha va hb vb
  obtain ⟨z1, z2⟩ := joinR_spec x1 y1
  refine same_of z1 ha fun v => ?_
  rw [z2, x2, y2]
  constructor
  · rintro (h | h) <;> exact h.1
  · intro h
    by_cases hv : inD v b
    · exact .inl ⟨h, hv⟩
    · exact .inr ⟨h, hv⟩
theorem parts_none {a b : List (Int × Int)} (ha : Wf a) (va : Vb a) (hb : Wf b) (vb : Vb b) : sizeR (meetR (meetR a b) (minusR a b)) = 0 := by
  obtain ⟨x1, x2⟩ := meetR_spec ha.gp hb.gp
  obtain ⟨y1, y2⟩ := minusR_spec ha va hb vb
  obtain ⟨z1, z2⟩ := meetR_spec x1.gp y1.gp
  have : meetR (meetR a b) (minusR a b) = [] := z1.eq trivial fun v => by
    rw [z2, x2, y2]
    exact ⟨fun h => (h.2.2 h.1.2).elim, fun h => (inD_nil h).elim⟩
  rw [this]; rfl
theorem parts_size {a b : List (Int × Int)} (ha : Wf a) (va : Vb a) (hb : Wf b) (vb : Vb b) : sizeR (meetR a b) + sizeR (minusR a b) = sizeR a := by
  obtain ⟨x1, x2⟩ := meetR_spec ha.gp hb.gp
  obtain ⟨y1, y2⟩ := minusR_spec ha va hb vb
  refine size_parts ha x1 y1 (fun v => hasL (vals b) v) (fun v => ?_) (fun v => ?_)
  · rw [x2, hasL_iff, mem_vals]
  · rw [y2, hasL_no, mem_vals]
/-- the line x v + y of a law's domain -/
def lineD (l : List Int) (x y : Int) : List (Int × Int) := dm (lineL x y (vals (sml l)))
theorem line_small (l : List Int) {x y : Int} (hx : -49 ≤ x ∧ x ≤ 49) (hy : -999 ≤ y ∧ y ≤ 999) {u : Int} (h : u ∈ lineL x y (vals (sml l))) : ∃ v, inD v (sml l) ∧ u = x * v + y ∧ (-10799 ≤ u ∧ u ≤ 10799) := by
  unfold lineL at h
  rw [List.mem_map] at h
  obtain ⟨v, hv, rfl⟩ := h
  have h1 := mem_vals.1 hv
  have h2 := sml_bd l h1
  have h3 := mul_bd (m := 49) (n := 200) hx h2
  exact ⟨v, h1, rfl, by unfold lineV; omega⟩
theorem lineErr_ok {x y : Int} (h0 : x ≠ 0) (hx : -49 ≤ x ∧ x ≤ 49) (hy : -999 ≤ y ∧ y ≤ 999) : lineErr x y = 0 := by
  unfold lineErr
  rw [if_neg h0, if_pos ⟨vl_mk (by omega), vl_mk (by omega)⟩]
theorem vals_sml_len (l : List Int) : (vals (sml l)).length ≤ 30 := by
  have h1 := sizeR_vals (sml_wf l).lohi
  have h2 := sml_size l
  omega
theorem line_there (l : List Int) {x y : Int} (h0 : x ≠ 0) (hx : -49 ≤ x ∧ x ≤ 49) (hy : -999 ≤ y ∧ y ≤ 999) : lineRes (sml l) x y = lineD l x y ∧ lineE (sml l) x y = 0 := by
  have he := lineErr_ok h0 hx hy
  unfold lineRes lineE
  rw [if_pos he, if_pos he]
  have hall : (lineL x y (vals (sml l))).all vl = true := List.all_eq_true.2 fun u hu => by
    obtain ⟨_, _, _, h⟩ := line_small l hx hy hu
    exact vl_mk (by omega)
  have hl : (sortedL (lineL x y (vals (sml l)))).length ≤ 4096 := by
    have h2 := sortedL_len (lineL x y (vals (sml l)))
    rw [lineL_len] at h2
    have := vals_sml_len l
    omega
  obtain ⟨h1, h2⟩ := ofErr_ok hall (by omega)
  exact ⟨h2, h1⟩
theorem lineD_wf (l : List Int) (x y : Int) : Wf (lineD l x y) := (dm_spec _).1
theorem lineD_in (l : List Int) (x y u : Int) : inD u (lineD l x y) ↔ u ∈ lineL x y (vals (sml l)) := (dm_spec _).2 u
theorem lineD_vb (l : List Int) {x y : Int} (hx : -49 ≤ x ∧ x ≤ 49) (hy : -999 ≤ y ∧ y ≤ 999) : Vb (lineD l x y) := Vb.of (lineD_wf l x y) fun u hu => by
  obtain ⟨_, _, _, h⟩ := line_small l hx hy ((lineD_in l x y u).1 hu)
  omega
theorem mul_inj {x a b : Int} (h0 : x ≠ 0) (h : x * a = x * b) : a = b := Int.eq_of_mul_eq_mul_left h0 h
theorem lineD_size (l : List Int) {x y : Int} (h0 : x ≠ 0) : sizeR (lineD l x y) = sizeR (sml l) := by
  rw [lineD, dm_size, sizeR_vals (sml_wf l).lohi]
  have hnd : (lineL x y (vals (sml l))).Nodup := by
    unfold lineL
    rw [List.Nodup, List.pairwise_map]
    refine (up_nodup (vals_up (sml_wf l))).imp fun {a b} hab e => hab ?_
    unfold lineV at e
    exact mul_inj h0 (by omega)
  have := nodup_len (sortedL_spec (lineL x y (vals (sml l)))).1 hnd (sortedL_spec _).2
  rw [this, lineL_len]
theorem tdiv_line {x v y : Int} (h0 : x ≠ 0) : (x * v + y - y).tdiv x = v := by
  rw [show x * v + y - y = x * v from by omega]
  exact Int.mul_tdiv_cancel_left v h0
theorem line_back (l : List Int) {x y : Int} (h0 : x ≠ 0) (hx : -49 ≤ x ∧ x ≤ 49) (hy : -999 ≤ y ∧ y ≤ 999) : backRes (lineD l x y) x y = sml l ∧ backE (lineD l x y) x y = 0 := by
  have he := lineErr_ok h0 hx hy
  unfold backRes backE
  rw [if_pos he, if_pos he]
  have hmem : ∀ v, v ∈ backL x y (vals (lineD l x y)) ↔ inD v (sml l) := fun v => by
    unfold backL
    rw [List.mem_filterMap]
    constructor
    · rintro ⟨u, hu, hb⟩
      obtain ⟨a, ha, rfl, _⟩ := line_small l hx hy ((lineD_in l x y u).1 (mem_vals.1 hu))
      unfold backV at hb
      rw [tdiv_line h0] at hb
      split at hb
      · injection hb with hb; rw [← hb]; exact ha
      · cases hb
    · intro hv
      have hb := sml_bd l hv
      refine ⟨x * v + y, mem_vals.2 ((lineD_in l x y _).2 (List.mem_map.2 ⟨v, mem_vals.2 hv, rfl⟩)), ?_⟩
      unfold backV
      rw [tdiv_line h0, if_pos ⟨by omega, vl_mk (by omega)⟩]
  have hall : (backL x y (vals (lineD l x y))).all vl = true := List.all_eq_true.2 fun u hu => by
    have := sml_bd l ((hmem u).1 hu)
    exact vl_mk (by omega)
  have hl : (sortedL (backL x y (vals (lineD l x y)))).length ≤ 4096 := by
    have h2 := sortedL_len (backL x y (vals (lineD l x y)))
    have h3 := backL_len x y (vals (lineD l x y))
    have h4 := sizeR_vals (lineD_wf l x y).lohi
    have h5 := lineD_size l (x := x) (y := y) h0
    have h6 := sml_size l
    omega
  obtain ⟨h1, h2⟩ := ofErr_ok hall (by omega)
  refine ⟨?_, h1⟩
  rw [h2]
  obtain ⟨h3, h4⟩ := dm_spec (backL x y (vals (lineD l x y)))
  exact h3.eq (sml_wf l) fun v => (h4 v).trans (hmem v)
end Go.Proofs.Ytabhcocjldebkaa
