/- Nothing of this is in the program. -/
import Derived.Test.YtldgknicjdfmeabRows
import Derived.Shelf.SortM.Plain
import Derived.Shelf.SortM.SortNone
import Derived.Shelf.LaySoft
