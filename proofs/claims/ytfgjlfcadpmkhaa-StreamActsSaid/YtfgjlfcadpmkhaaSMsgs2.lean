/- stream.Messages, whatever the bytes. -/
import Derived.Test.YtfgjlfcadpmkhaaSMsgs
namespace Go.Proofs.Ytfgjlfcadpmkhaa
open Go Go.RowKit Go.Shelf
attribute [local go_sem] Oper.semAt_some

theorem info_bb : (Try.prog.info? 29).map (fun i => (i.zero, i.size, i.bytes)) = some (some (.slice none 0 0), 1, 24) := by kernel_rfl
end Go.Proofs.Ytfgjlfcadpmkhaa
