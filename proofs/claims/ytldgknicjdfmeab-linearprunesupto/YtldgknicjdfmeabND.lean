
/- Contracts of model.Same and of what it calls. -/
import Derived.Test.YtldgknicjdfmeabNA
namespace Go.Proofs.Ytldgknicjdfmeab
open Go.ChangeShapes Go.WideShapes Go.ChangeAt Go.RowKit Go.Shelf
set_option linter.unusedVariables false
set_option maxRecDepth 100000
set_option linter.unusedSimpArgs false

def eqF {α : Type} (p : α → α → Bool) (a b : List α) : Bool := decide (a.length = b.length) && !((a.zip b).any fun z => !p z.1 z.2)
theorem eqF_map {α β : Type} [DecidableEq β] (f : α → β) (a b : List α) : eqF (fun x y => decide (f x = f y)) a b = decide (a.map f = b.map f) := by
  unfold eqF
  induction a generalizing b with
  | nil => cases b <;> simp
  | cons x a ih =>
    cases b with
    | nil => simp
    | cons y b =>
      have := ih b
      simp only [List.zip_cons_cons, List.any_cons, List.length_cons, List.map_cons, Nat.add_right_cancel_iff, List.cons.injEq, Bool.not_or, Bool.not_not] at this ⊢
      by_cases h : f x = f y
      · simp only [h, decide_true, true_and, Bool.true_and]; exact this
      · simp [h]
theorem zip_at {α : Type} {a b : List α} {k : Nat} {x y : α} (hx : a[k]? = some x) (hy : b[k]? = some y) : (a.zip b)[k]? = some (x, y) := by
  rw [List.getElem?_zip_eq_some]; exact ⟨hx, hy⟩
end Go.Proofs.Ytldgknicjdfmeab
