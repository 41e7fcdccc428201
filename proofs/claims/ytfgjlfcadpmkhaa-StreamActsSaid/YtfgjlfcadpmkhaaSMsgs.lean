/- stream.messages' closure: what it hands its loop, message by message, whatever the loop does with them. -/
import Derived.Test.YtfgjlfcadpmkhaaSFirst
namespace Go.Proofs.Ytfgjlfcadpmkhaa
open Go Go.RowKit

def slen : Value → Nat
  | .slice _ n _ => n
  | _ => 0
end Go.Proofs.Ytfgjlfcadpmkhaa
