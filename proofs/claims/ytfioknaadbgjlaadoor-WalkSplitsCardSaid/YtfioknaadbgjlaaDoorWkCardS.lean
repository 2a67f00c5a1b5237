/-
  What the card of WalkSplits rests on: the start; the law over the program's own Split.
-/
import Derived.Test.YtfioknaadbgjlaaDoorRows
import Derived.Test.YtfioknaadbgjlaaDoorCards
import Derived.Test.YtfioknaadbgjlaaDoorTie
import Derived.Test.YtfioknaadbgjlaaDoorWkLawS
import Derived.Test.YtfioknaadbgjlaaDoorWkSplit
import Derived.WalkKit
import Derived.ProofKit
import Derived.OpenShut
import Derived.Lay
import Derived.SevenTiedAt
namespace Go.Proofs.YtfioknaadbgjlaaDoor
open Go.ChangeShapes Go.WideShapes Go.ChangeAt Go.RowKit Go.Lib
set_option linter.unusedVariables false

theorem own : ownKnob Tryd.prog.godebug = none := by kernel_rfl
def laidAll : List (String × DataW Unit) := [("unicode/utf8.acceptRanges", Rows.laid_unicode_utf8_acceptRanges), ("unicode/utf8.first", Rows.laid_unicode_utf8_first)]
theorem tabs_of {w : World} (hL : laidMet Tryd.prog laidAll w) : True := trivial
theorem splits_all (b : ByteArray) (hs : b.size ≤ 9223372036854775807) (w : World) (_ : True) : Calls Tryd.prog 3 #[.string b] w fun e w' => e = .returned (.bool true) ∧ Below w.heap.size w w' :=
  splits_walk (fun _ _ _ _ => trivial) split_c b hs w trivial
end Go.Proofs.YtfioknaadbgjlaaDoor
