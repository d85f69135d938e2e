
/- Contract of model.Same. -/
import Derived.Test.YtldgknicjdfmeabNE
namespace Go.Proofs.Ytldgknicjdfmeab
open Go.ChangeShapes Go.WideShapes Go.ChangeAt Go.RowKit Go.Shelf
set_option linter.unusedVariables false
set_option maxRecDepth 100000
set_option linter.unusedSimpArgs false

def sameM (x y : Mm) : Bool := eqF (fun s t : Vm => decide (s.v = t.v)) x.vs y.vs && (eqF (fun s t : Cm => decide (s.v = t.v)) x.cs y.cs && (decide (x.g.kind = y.g.kind) && (sameL x.g.vars.l y.g.vars.l && sameL x.g.coefs.l y.g.coefs.l)))
theorem sameM_eq (x y : Mm) : sameM x y = decide (x.v = y.v) := by
  unfold sameM
  rw [eqF_map (fun s : Vm => s.v), eqF_map (fun s : Cm => s.v)]
  unfold sameL
  simp only [← Bool.decide_and]
  congr 1
  unfold Mm.v Gm.v
  simp only [ModV.mk.injEq, GoalV.mk.injEq]
end Go.Proofs.Ytldgknicjdfmeab
