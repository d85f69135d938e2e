
/- Plain facts on domains that the laws want: a value taken out and put in again; a domain is one. -/
import Derived.Test.YtklgkkfkdeggeaaLX
namespace Go.Proofs.Ytklgkkfkdeggeaa
open Go.RowKit
set_option linter.unusedVariables false

theorem okAt_wf {d : List (Int × Int)} (hw : Wf d) (hv : Vb d) {k : Nat} (hk : k < d.length) : okAt d k = true := by
  have h1 := hv _ (getD_mem hk)
  have h2 := hw.lh hk
  unfold okAt
  rw [vl_mk h1.1, vl_mk h1.2, decide_eq_true h2]
  cases k with
  | zero => rfl
  | succ k =>
    have := hw.idx (a := k) (b := k + 1) (by omega) hk
    rw [show k + 1 - 1 = k from rfl, decide_eq_true (by omega)]
    simp
theorem checkR_wf {d : List (Int × Int)} (hw : Wf d) (hv : Vb d) (hs : sizeR d ≤ 4096) : checkR d = 0 := by
  have hf : formTo d d.length = true := by
    rw [formTo, List.all_eq_true]
    intro k hk
    exact okAt_wf hw hv (List.mem_range.1 hk)
  rw [checkR, if_pos hf, if_neg (by omega)]
def one (k : Int) : List (Int × Int) := [(k, k)]
theorem one_wf (k : Int) : Wf (one k) := Wf.one (Int.le_refl _)
theorem one_in {k v : Int} : inD v (one k) ↔ v = k := by
  unfold one
  rw [inD_one]
  exact ⟨fun h => by have h1 := h.1; have h2 := h.2; simp at h1 h2; omega, fun h => by subst h; exact ⟨Int.le_refl _, Int.le_refl _⟩⟩
theorem one_vb {k : Int} (hk : -299 ≤ k ∧ k ≤ 299) : Vb (one k) := Vb.of (one_wf k) fun v hv => by have := one_in.1 hv; omega
theorem less_spec (l : List Int) {k : Int} (hk : -299 ≤ k ∧ k ≤ 299) : Wf (minusR (sml l) (one k)) ∧ Vb (minusR (sml l) (one k)) ∧ ∀ v, inD v (minusR (sml l) (one k)) ↔ inD v (sml l) ∧ v ≠ k := by
  obtain ⟨h1, h2⟩ := minusR_spec (sml_wf l) (sml_vb l) (one_wf k) (one_vb hk)
  have h3 : ∀ v, inD v (minusR (sml l) (one k)) ↔ inD v (sml l) ∧ v ≠ k := fun v => by rw [h2, one_in]
  exact ⟨h1, Vb.of h1 fun v hv => (sml_vb l).mem ((h3 v).1 hv).1, h3⟩
theorem less_size (l : List Int) {k : Int} (hk : -299 ≤ k ∧ k ≤ 299) : sizeR (minusR (sml l) (one k)) = sizeR (sml l) - (if hasL (vals (sml l)) k = true then 1 else 0) := by
  obtain ⟨h1, _, h3⟩ := less_spec l hk
  by_cases h : inD k (sml l)
  · rw [if_pos (hasL_iff.2 (mem_vals.2 h))]
    have := size_parts (sml_wf l) h1 (one_wf k) (fun v => !decide (v = k)) (fun v => by rw [h3]; simp) (fun v => by
      rw [one_in]
      simp only [Bool.not_eq_false', decide_eq_true_eq]
      exact ⟨fun e => by subst e; exact ⟨h, rfl⟩, fun e => e.2⟩)
    have e1 : sizeR (one k) = 1 := by simp [one, sizeR]
    omega
  · have e : minusR (sml l) (one k) = sml l := h1.eq (sml_wf l) fun v => by
      rw [h3]
      exact ⟨fun e => e.1, fun e => ⟨e, fun e2 => h (by rw [← e2]; exact e)⟩⟩
    rw [e, if_neg (fun e => h (mem_vals.1 (hasL_iff.1 e)))]
    omega
theorem less_has (l : List Int) {k : Int} (hk : -299 ≤ k ∧ k ≤ 299) : hasL (vals (minusR (sml l) (one k))) k = false := by
  obtain ⟨h1, _, h3⟩ := less_spec l hk
  exact hasL_no.2 fun e => ((h3 k).1 (mem_vals.1 e)).2 rfl
theorem less_back (l : List Int) {k : Int} (hk : -299 ≤ k ∧ k ≤ 299) (h : hasL (vals (sml l)) k = true) : sameR (joinR (minusR (sml l) (one k)) (one k)) (sml l) = true := by
  obtain ⟨h1, _, h3⟩ := less_spec l hk
  have hi := mem_vals.1 (hasL_iff.1 h)
  obtain ⟨z1, z2⟩ := joinR_spec h1 (one_wf k)
  refine same_of z1 (sml_wf l) fun v => ?_
  rw [z2, h3, one_in]
  constructor
  · rintro (e | e)
    · exact e.1
    · rw [e]; exact hi
  · intro e
    by_cases h : v = k
    · exact .inr h
    · exact .inl ⟨e, h⟩
theorem less_check (l : List Int) {k : Int} (hk : -299 ≤ k ∧ k ≤ 299) : checkR (minusR (sml l) (one k)) = 0 := by
  obtain ⟨h1, h2, _⟩ := less_spec l hk
  have h3 := less_size l hk
  have h4 := sml_size l
  refine checkR_wf h1 h2 ?_
  split at h3 <;> omega
end Go.Proofs.Ytklgkkfkdeggeaa
