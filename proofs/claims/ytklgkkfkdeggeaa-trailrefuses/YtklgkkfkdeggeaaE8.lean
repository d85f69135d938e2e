
/- Contracts of the reference's Back and of the laws' Small. -/
import Derived.Test.YtklgkkfkdeggeaaE7
namespace Go.Proofs.Ytklgkkfkdeggeaa
open Go.ChangeShapes Go.WideShapes Go.ChangeAt Go.RowKit
set_option linter.unusedVariables false

end Go.Proofs.Ytklgkkfkdeggeaa
