
/- Contracts of ints.Floor, ints.Ceil, over few texts. -/
import Derived.Test.YtldgknicjdfmeaaCI
namespace Go.Proofs.Ytldgknicjdfmeaa
open Go.ChangeShapes Go.WideShapes Go.ChangeAt Go.RowKit

end Go.Proofs.Ytldgknicjdfmeaa
