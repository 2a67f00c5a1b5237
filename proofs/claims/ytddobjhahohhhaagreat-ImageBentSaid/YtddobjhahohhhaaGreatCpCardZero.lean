/-
  What each row of this seat shares: the start.
-/
import Derived.Test.YtddobjhahohhhaaGreatRows
import Derived.WalkKit
import Derived.ProofKit
import Derived.OpenShut
namespace Go.Proofs.YtddobjhahohhhaaGreat
set_option linter.unusedVariables false

theorem own : ownKnob Tryz.prog.godebug = none := by kernel_rfl
end Go.Proofs.YtddobjhahohhhaaGreat
