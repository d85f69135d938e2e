
/- Contracts of the reference's Lists and Alike: the same constraints? -/
import Derived.Test.YtldgknicjdfmeabNF
import Derived.Test.YtldgknicjdfmeabD4
import Derived.Test.YtldgknicjdfmeabN4
import Derived.Deep.RegionHeld3
namespace Go.Proofs.Ytldgknicjdfmeab
open Go.ChangeShapes Go.WideShapes Go.ChangeAt Go.RowKit
set_option linter.unusedVariables false
set_option maxRecDepth 100000

theorem take_eqX {α β : Type} {f : α → β} {a b : List α} {k : Nat} {x y : α} (hx : a[k]? = some x) (hy : b[k]? = some y) (h : (a.take k).map f = (b.take k).map f) (e : f x = f y) : (a.take (k + 1)).map f = (b.take (k + 1)).map f := by
  obtain ⟨h1, h2⟩ := List.getElem?_eq_some_iff.1 hx
  obtain ⟨h3, h4⟩ := List.getElem?_eq_some_iff.1 hy
  rw [List.take_succ_eq_append_getElem h1, List.take_succ_eq_append_getElem h3, List.map_append, List.map_append, h, h2, h4]
  simp [e]
theorem take_neX {α β : Type} {f : α → β} {a b : List α} {k : Nat} {x y : α} (hx : a[k]? = some x) (hy : b[k]? = some y) (e : f x ≠ f y) : a.map f ≠ b.map f := fun h => by
  have h1 : (a.map f)[k]? = some (f x) := by simp [hx]
  have h2 : (b.map f)[k]? = some (f y) := by simp [hy]
  rw [h, h2] at h1
  injection h1 with h1
  exact e h1.symm
theorem conV_eq (x y : ConV) : decide (x = y) = (x.kind == y.kind && x.op == y.op && x.rhs == y.rhs && x.b == y.b && sameL x.vars y.vars && sameL x.coefs y.coefs && decide (x.rows = y.rows)) := by
  obtain ⟨a1, a2, a3, a4, a5, a6, a7⟩ := x
  obtain ⟨b1, b2, b3, b4, b5, b6, b7⟩ := y
  have e : ((⟨a1, a2, a3, a4, a5, a6, a7⟩ : ConV) = ⟨b1, b2, b3, b4, b5, b6, b7⟩) ↔ (a1 = b1 ∧ a4 = b4 ∧ a5 = b5 ∧ a7 = b7 ∧ a2 = b2 ∧ a3 = b3 ∧ a6 = b6) := by
    constructor
    · intro h; cases h; exact ⟨rfl, rfl, rfl, rfl, rfl, rfl, rfl⟩
    · rintro ⟨rfl, rfl, rfl, rfl, rfl, rfl, rfl⟩; rfl
  simp only [e, sameL]
  by_cases h1 : a1 = b1 <;> by_cases h2 : a4 = b4 <;> by_cases h3 : a5 = b5 <;> by_cases h4 : a7 = b7 <;> by_cases h5 : a2 = b2 <;> by_cases h6 : a3 = b3 <;> by_cases h7 : a6 = b6 <;> simp [h1, h2, h3, h4, h5, h6, h7]
end Go.Proofs.Ytldgknicjdfmeab
