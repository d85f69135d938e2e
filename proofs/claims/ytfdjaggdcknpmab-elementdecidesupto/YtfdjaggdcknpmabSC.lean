/- Nothing of this is in the program. -/
import Derived.Test.YtfdjaggdcknpmabRows
import Derived.Shelf.SlicesG.CompactI
import Derived.Shelf.SlicesG.Cells
import Derived.Shelf.LaySoft
