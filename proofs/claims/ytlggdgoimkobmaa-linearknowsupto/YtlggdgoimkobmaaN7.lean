
/- Contracts of model.keepsRow, of Con's closures, of Con and Goal. -/
import Derived.Test.YtlggdgoimkobmaaN6
namespace Go.Proofs.Ytlggdgoimkobmaa
open Go.ChangeShapes Go.WideShapes Go.ChangeAt Go.RowKit Go.Shelf
set_option linter.unusedVariables false
set_option maxRecDepth 100000
set_option linter.unusedSimpArgs false

/-! ### Con's closures -/
end Go.Proofs.Ytlggdgoimkobmaa
