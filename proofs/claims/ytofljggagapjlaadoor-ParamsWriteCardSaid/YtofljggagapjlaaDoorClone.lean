/- The function clone hands back a new slice of the same bytes, and writes nothing that was there. -/
import Derived.Test.YtofljggagapjlaaDoorAppend
import Derived.Test.YtofljggagapjlaaDoorChecked
import Derived.Outline
namespace Go.Proofs.YtofljggagapjlaaDoor
open Go Go.RowKit


end Go.Proofs.YtofljggagapjlaaDoor
