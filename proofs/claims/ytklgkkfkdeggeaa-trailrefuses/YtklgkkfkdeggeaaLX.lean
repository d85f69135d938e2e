
/- Plain facts on domains that the laws want: in which order, cut in two, without a value. -/
import Derived.Test.YtklgkkfkdeggeaaLD
namespace Go.Proofs.Ytklgkkfkdeggeaa
open Go.RowKit
set_option linter.unusedVariables false

theorem tm3_bd (x : Int) : -299 ≤ x.tmod 300 ∧ x.tmod 300 ≤ 299 := by
  have h1 : (x.tmod 300).natAbs < 300 := by rw [Int.natAbs_tmod]; exact Nat.mod_lt _ (by decide)
  omega
theorem Dm.nil (w : World) : Dm w none 0 [] := ⟨.inl rfl, Nat.le_refl _, trivial, fun r hr => by (cases hr)⟩
theorem same_of {a b : List (Int × Int)} (ha : Wf a) (hb : Wf b) (h : ∀ v, inD v a ↔ inD v b) : sameR a b = true := decide_eq_true (ha.eq hb h)
theorem meet_comm {a b : List (Int × Int)} (ha : Wf a) (hb : Wf b) : sameR (meetR a b) (meetR b a) = true := by
  obtain ⟨x1, x2⟩ := meetR_spec ha.gp hb.gp
  obtain ⟨y1, y2⟩ := meetR_spec hb.gp ha.gp
  exact same_of x1 y1 fun v => by rw [x2, y2]; exact and_comm
theorem join_comm {a b : List (Int × Int)} (ha : Wf a) (hb : Wf b) : sameR (joinR a b) (joinR b a) = true := by
  obtain ⟨x1, x2⟩ := joinR_spec ha hb
  obtain ⟨y1, y2⟩ := joinR_spec hb ha
  exact same_of x1 y1 fun v => by rw [x2, y2]; exact or_comm
theorem meet_self {a : List (Int × Int)} (ha : Wf a) : sameR (meetR a a) a = true := by
  obtain ⟨x1, x2⟩ := meetR_spec ha.gp ha.gp
  exact same_of x1 ha fun v => by rw [x2]; exact and_self_iff
theorem minus_self (l : List Int) : sameR (minusR (sml l) (sml l)) [] = true := by
  obtain ⟨x1, x2⟩ := minusR_spec (sml_wf l) (sml_vb l) (sml_wf l) (sml_vb l)
  exact same_of x1 trivial fun v => by rw [x2]; exact ⟨fun h => (h.2 h.1).elim, fun h => (inD_nil h).elim⟩
theorem cut_two (l : List Int) {k : Int} (hk : -299 ≤ k ∧ k ≤ 299) : sameR (joinR (cutR (sml l) (-1000) k) (cutR (sml l) (k + 1) 1000)) (sml l) = true := by
  obtain ⟨x1, x2⟩ := cutR_spec (sml_wf l) (-1000) k
  obtain ⟨y1, y2⟩ := cutR_spec (sml_wf l) (k + 1) 1000
  obtain ⟨z1, z2⟩ := joinR_spec x1 y1
  refine same_of z1 (sml_wf l) fun v => ?_
  rw [z2, x2, y2]
  constructor
  · rintro (h | h) <;> exact h.1
  · intro h
    have := sml_bd l h
    by_cases hv : v ≤ k
    · exact .inl ⟨h, by omega, hv⟩
    · exact .inr ⟨h, by omega, by omega⟩
/-- a domain's size, counted by a part of its values and the rest -/
theorem size_parts {d x y : List (Int × Int)} (hd : Wf d) (hx : Wf x) (hy : Wf y) (p : Int → Bool) (h1 : ∀ v, inD v x ↔ inD v d ∧ p v = true) (h2 : ∀ v, inD v y ↔ inD v d ∧ p v = false) : sizeR x + sizeR y = sizeR d := by
  have ux : vals x = (vals d).filter p := (vals_up hx).eq ((vals_up hd).filter _) fun v => by rw [mem_vals, h1, List.mem_filter, mem_vals]
  have uy : vals y = (vals d).filter (fun v => !p v) := (vals_up hy).eq ((vals_up hd).filter _) fun v => by rw [mem_vals, h2, List.mem_filter, mem_vals]; simp
  rw [sizeR_vals hx.lohi, sizeR_vals hy.lohi, sizeR_vals hd.lohi, ux, uy]
  have : ∀ l : List Int, ((l.filter p).length : Int) + ((l.filter fun v => !p v).length : Int) = (l.length : Int) := by
    intro l
    induction l with
    | nil => rfl
    | cons x l ih =>
      simp only [List.filter_cons, List.length_cons]
      cases p x <;> simp <;> omega
  exact this _
theorem cut_sizes (l : List Int) {k : Int} (hk : -299 ≤ k ∧ k ≤ 299) : sizeR (cutR (sml l) (-1000) k) + sizeR (cutR (sml l) (k + 1) 1000) = sizeR (sml l) := by
  obtain ⟨x1, x2⟩ := cutR_spec (sml_wf l) (-1000) k
  obtain ⟨y1, y2⟩ := cutR_spec (sml_wf l) (k + 1) 1000
  refine size_parts (sml_wf l) x1 y1 (fun v => decide (v ≤ k)) (fun v => ?_) (fun v => ?_)
  · rw [x2]
    simp only [decide_eq_true_eq]
    exact ⟨fun h => ⟨h.1, h.2.2⟩, fun h => ⟨h.1, by have := sml_bd l h.1; omega, h.2⟩⟩
  · rw [y2]
    simp only [decide_eq_false_iff_not]
    exact ⟨fun h => ⟨h.1, by omega⟩, fun h => ⟨h.1, by omega, by have := sml_bd l h.1; omega⟩⟩
end Go.Proofs.Ytklgkkfkdeggeaa
