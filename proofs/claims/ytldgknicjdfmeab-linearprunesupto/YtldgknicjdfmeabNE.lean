
/- Contracts of model.sameVar, sameCon, Same. -/
import Derived.Test.YtldgknicjdfmeabND
namespace Go.Proofs.Ytldgknicjdfmeab
open Go.ChangeShapes Go.WideShapes Go.ChangeAt Go.RowKit Go.Shelf
set_option linter.unusedVariables false
set_option maxRecDepth 100000
set_option linter.unusedSimpArgs false

def sameC (x y : Cm) : Bool := decide (x.kind = y.kind) && (decide (x.op = y.op) && (decide (x.rhs = y.rhs) && (decide (x.b = y.b) && (sameL x.vars.l y.vars.l && (sameL x.coefs.l y.coefs.l && eqF (fun s t : Sn => sameL s.l t.l) x.rows y.rows)))))
theorem sameC_eq (x y : Cm) : sameC x y = decide (x.v = y.v) := by
  unfold sameC
  have e : eqF (fun s t : Sn => sameL s.l t.l) x.rows y.rows = decide (x.rows.map (·.l) = y.rows.map (·.l)) := eqF_map (fun s : Sn => s.l) x.rows y.rows
  rw [e]
  unfold sameL
  simp only [← Bool.decide_and]
  congr 1
  unfold Cm.v
  simp only [ConV.mk.injEq]
  apply propext
  constructor
  · rintro ⟨h1, h2, h3, h4, h5, h6, h7⟩; exact ⟨h1, h5, h6, h2, h3, h7, h4⟩
  · rintro ⟨h1, h5, h6, h2, h3, h7, h4⟩; exact ⟨h1, h2, h3, h4, h5, h6, h7⟩
end Go.Proofs.Ytldgknicjdfmeab
