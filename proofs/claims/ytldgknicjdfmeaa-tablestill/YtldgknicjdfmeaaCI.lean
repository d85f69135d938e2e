
/- Over layer 2's words: contracts of ints.small, ints.size, ints.checkQuotient, ints.sum, ints.Add, ints.Sub, ints.Mul. -/
import Derived.Test.YtldgknicjdfmeaaRows
import Derived.Test.YtldgknicjdfmeaaZA
import Derived.Test.YtldgknicjdfmeaaD1
import Derived.WalkKit
import Derived.ProofKit
import Derived.OpenShut
import Derived.Below
namespace Go.Proofs.Ytldgknicjdfmeaa
open Go.ChangeShapes Go.WideShapes Go.ChangeAt Go.RowKit

end Go.Proofs.Ytldgknicjdfmeaa
