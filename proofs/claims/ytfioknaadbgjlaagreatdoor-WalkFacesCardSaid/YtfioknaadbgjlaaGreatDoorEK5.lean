/- Kit. -/
import Derived.Test.YtfioknaadbgjlaaGreatDoorEK4
import Derived.Test.YtfioknaadbgjlaaGreatDoorEK3
import Derived.Test.YtfioknaadbgjlaaGreatDoorEK2
import Derived.Deep.QuietTactic
import Derived.BigQuiet
import Derived.Test.YtfioknaadbgjlaaGreatDoorEK1
import Derived.Handy
import Derived.LoopTactic
set_option maxRecDepth 100000
set_option linter.unusedVariables false
set_option linter.unusedSimpArgs false
namespace Go.Proofs.YtfioknaadbgjlaaGreatDoor.F
open Go.RowKit
end Go.Proofs.YtfioknaadbgjlaaGreatDoor.F
namespace Go.Proofs.YtfioknaadbgjlaaGreatDoor.F
open Go.RowKit
end Go.Proofs.YtfioknaadbgjlaaGreatDoor.F
