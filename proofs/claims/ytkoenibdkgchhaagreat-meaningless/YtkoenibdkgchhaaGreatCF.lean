
/- Contracts of ints.Floor, ints.Ceil, over few texts. -/
import Derived.Test.YtkoenibdkgchhaaGreatCI
namespace Go.Proofs.YtkoenibdkgchhaaGreat
open Go.ChangeShapes Go.WideShapes Go.ChangeAt Go.RowKit

end Go.Proofs.YtkoenibdkgchhaaGreat
