
/- Contract of the reference's Same: the same models? -/
import Derived.Test.YtfdjaggdcknpmabQ8
namespace Go.Proofs.Ytfdjaggdcknpmab
open Go.ChangeShapes Go.WideShapes Go.ChangeAt Go.RowKit
set_option linter.unusedVariables false
set_option maxRecDepth 100000

theorem modV_eq (x y : Mm) : decide (x.v = y.v) = (decide (x.vs.length = y.vs.length) && decide (x.cs.length = y.cs.length) && x.g.kind == y.g.kind && sameL x.g.vars.l y.g.vars.l && sameL x.g.coefs.l y.g.coefs.l && decide (x.vs.map (·.v) = y.vs.map (·.v)) && decide (x.cs.map Cm.v = y.cs.map Cm.v)) := by
  have e : (x.v = y.v) ↔ (x.vs.map (·.v) = y.vs.map (·.v) ∧ x.cs.map Cm.v = y.cs.map Cm.v ∧ x.g.kind = y.g.kind ∧ x.g.vars.l = y.g.vars.l ∧ x.g.coefs.l = y.g.coefs.l) := by
    unfold Mm.v Gm.v
    constructor
    · intro h
      injection h with h1 h2 h3
      injection h3 with h3 h4 h5
      exact ⟨h1, h2, h3, h4, h5⟩
    · rintro ⟨h1, h2, h3, h4, h5⟩
      rw [h1, h2, h3, h4, h5]
  have l1 : x.vs.map (·.v) = y.vs.map (·.v) → x.vs.length = y.vs.length := fun h => by simpa using congrArg List.length h
  have l2 : x.cs.map Cm.v = y.cs.map Cm.v → x.cs.length = y.cs.length := fun h => by simpa using congrArg List.length h
  simp only [e, sameL]
  by_cases h1 : x.vs.map (·.v) = y.vs.map (·.v)
  · have m1 := l1 h1
    by_cases h2 : x.cs.map Cm.v = y.cs.map Cm.v
    · have m2 := l2 h2
      by_cases h3 : x.g.kind = y.g.kind <;> by_cases h4 : x.g.vars.l = y.g.vars.l <;> by_cases h5 : x.g.coefs.l = y.g.coefs.l <;> simp [h1, h2, h3, h4, h5, m1, m2]
    · simp [h2]
  · simp [h1]
end Go.Proofs.Ytfdjaggdcknpmab
