/-
  What each row of this seat shares: the start.
-/
import Derived.Test.YtddobjhahohhhaaRows
import Derived.WalkKit
import Derived.ProofKit
import Derived.OpenShut
namespace Go.Proofs.Ytddobjhahohhhaa
set_option linter.unusedVariables false

theorem own : ownKnob Try.prog.godebug = none := by kernel_rfl
end Go.Proofs.Ytddobjhahohhhaa
