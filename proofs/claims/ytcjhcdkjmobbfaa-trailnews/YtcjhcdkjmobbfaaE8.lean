
/- Contracts of the reference's Back and of the laws' Small. -/
import Derived.Test.YtcjhcdkjmobbfaaE7
namespace Go.Proofs.Ytcjhcdkjmobbfaa
open Go.ChangeShapes Go.WideShapes Go.ChangeAt Go.RowKit
set_option linter.unusedVariables false

end Go.Proofs.Ytcjhcdkjmobbfaa
