
/- Contract of the reference's Pack. -/
import Derived.Test.YtkoenibdkgchhaaGreatZB
import Derived.Deep.RegionLaw
import Derived.Deep.RegionHeld3
namespace Go.Proofs.YtkoenibdkgchhaaGreat
open Go.ChangeShapes Go.WideShapes Go.ChangeAt Go.RowKit
set_option linter.unusedVariables false

theorem drop_consI {l : List Int} {k : Nat} (h : k < l.length) : l.drop k = l.getD k 0 :: l.drop (k + 1) := by
  rw [List.drop_eq_getElem_cons h, List.getD_eq_getElem?_getD, List.getElem?_eq_getElem h]
  rfl
theorem getD_memI {l : List Int} {k : Nat} (h : k < l.length) : l.getD k 0 ∈ l := by
  rw [List.getD_eq_getElem?_getD, List.getElem?_eq_getElem h]; exact List.getElem_mem h
def PackRel (l : List Int) (out : List (Int × Int)) (f k : Nat) : Prop := out.length ≤ k ∧ (k < l.length → f ≤ k ∧ out ++ packF (l.getD f 0) (l.getD k 0) (l.drop (k + 1)) = packL l) ∧ (k = l.length → out = packL l)
theorem PackRel.start (l : List Int) : PackRel l [] 0 0 := by
  cases l with
  | nil => exact ⟨Nat.le_refl _, fun h => by simp at h, fun _ => rfl⟩
  | cons x l => exact ⟨Nat.le_refl _, fun _ => ⟨Nat.le_refl _, rfl⟩, fun h => by simp at h⟩
theorem PackRel.last {l : List Int} {out : List (Int × Int)} {f k : Nat} (h : PackRel l out f k) (hk : k + 1 = l.length) : PackRel l (out ++ [(l.getD f 0, l.getD k 0)]) (k + 1) (k + 1) := by
  obtain ⟨h1, h2⟩ := h.2.1 (by omega)
  rw [List.drop_of_length_le (by omega), packF] at h2
  exact ⟨by rw [List.length_append]; have := h.1; simp; omega, fun h' => by omega, fun _ => h2⟩
theorem PackRel.cut {l : List Int} {out : List (Int × Int)} {f k : Nat} (h : PackRel l out f k) (hk : k + 1 < l.length) (hne : l.getD (k + 1) 0 ≠ l.getD k 0 + 1) : PackRel l (out ++ [(l.getD f 0, l.getD k 0)]) (k + 1) (k + 1) := by
  obtain ⟨h1, h2⟩ := h.2.1 (by omega)
  rw [drop_consI hk, packF, if_neg hne] at h2
  exact ⟨by rw [List.length_append]; have := h.1; simp; omega, fun _ => ⟨Nat.le_refl _, by rw [List.append_assoc]; exact h2⟩, fun h' => by omega⟩
theorem PackRel.on {l : List Int} {out : List (Int × Int)} {f k : Nat} (h : PackRel l out f k) (hk : k + 1 < l.length) (he : l.getD (k + 1) 0 = l.getD k 0 + 1) : PackRel l out f (k + 1) := by
  obtain ⟨h1, h2⟩ := h.2.1 (by omega)
  rw [drop_consI hk, packF, if_pos he] at h2
  exact ⟨by have := h.1; omega, fun _ => ⟨by omega, h2⟩, fun h' => by omega⟩
end Go.Proofs.YtkoenibdkgchhaaGreat
