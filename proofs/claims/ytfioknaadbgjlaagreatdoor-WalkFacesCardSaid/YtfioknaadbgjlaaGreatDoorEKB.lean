/- Kit. -/
import Derived.Test.YtfioknaadbgjlaaGreatDoorEK9
import Derived.Test.YtfioknaadbgjlaaGreatDoorEK5
import Derived.Test.YtfioknaadbgjlaaGreatDoorEK8
import Derived.Test.YtfioknaadbgjlaaGreatDoorEK7
import Derived.Deep.LoopGhost
import Derived.Deep.CutRange
import Derived.Deep.RegionHeld3
set_option maxRecDepth 100000
set_option linter.unusedVariables false
set_option linter.unusedSimpArgs false
namespace Go.Proofs.YtfioknaadbgjlaaGreatDoor.F
open Go.RowKit Go.Sort
end Go.Proofs.YtfioknaadbgjlaaGreatDoor.F
namespace Go.Proofs.YtfioknaadbgjlaaGreatDoor.F
open Go.RowKit Go.Sort
end Go.Proofs.YtfioknaadbgjlaaGreatDoor.F
