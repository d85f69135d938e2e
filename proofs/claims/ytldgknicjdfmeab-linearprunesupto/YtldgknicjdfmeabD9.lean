
/- Contracts of dom.Check and of the reference's Check. -/
import Derived.Test.YtldgknicjdfmeabD2
namespace Go.Proofs.Ytldgknicjdfmeab
open Go.ChangeShapes Go.WideShapes Go.ChangeAt Go.RowKit
set_option linter.unusedVariables false

theorem formTo_vb {ds : List (Int × Int)} (h : formTo ds ds.length = true) : Vb ds := by
  intro r hr
  obtain ⟨k, hk, rfl⟩ := List.getElem_of_mem hr
  have := okAt_true (formTo_at h hk)
  rw [show ds.getD k (0, 0) = ds[k] from by rw [List.getD_eq_getElem?_getD, List.getElem?_eq_getElem hk]; rfl] at this
  exact ⟨this.1, this.2.1⟩
theorem checkR_bad {ds : List (Int × Int)} {k : Nat} (hk : k < ds.length) (h : okAt ds k = false) : checkR ds = 20 := by
  rw [checkR, formTo_stop hk h]; rfl
theorem checkR_good {ds : List (Int × Int)} (h : formTo ds ds.length = true) : checkR ds = if 4096 < sizeR ds then 2 else 0 := by
  rw [checkR, if_pos h]
theorem Value_is (v : Int) (b : Bool) (h : vl v = b) (w : World) : Calls Try.prog 67 #[.int .i64 v] w fun e w' => e = .returned (.bool b) ∧ w' = w := by
  have := Value_any v w
  rw [h] at this
  exact this.mono fun _ _ h => ⟨h.1, h.2.symm⟩
end Go.Proofs.Ytldgknicjdfmeab
