/- Kit. -/
import Derived.Test.YtfioknaadbgjlaaGreatDoorEK1
import Derived.Test.YtfioknaadbgjlaaGreatDoorEK2
set_option maxRecDepth 100000
set_option linter.unusedVariables false
set_option linter.unusedSimpArgs false
namespace Go.Proofs.YtfioknaadbgjlaaGreatDoor.F
open Go.RowKit
end Go.Proofs.YtfioknaadbgjlaaGreatDoor.F
