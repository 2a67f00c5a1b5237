/-
  The law EscapeBack of stage 4, walked: it answers true; what lay in memory stays.
-/
import Derived.Test.YtfmjhamnpgcdcaaDoorKC
import Derived.Test.YtfmjhamnpgcdcaaDoorZEsLawA
namespace Go.Proofs.YtfmjhamnpgcdcaaDoor
open Go.RowKit Go.Sort
set_option linter.unusedVariables false

theorem good_size {b : ByteArray} (h : goodB b = true) : b.size ≤ 255 := by
  rw [good_says] at h
  simp only [Bool.and_eq_true, decide_eq_true_iff] at h
  exact h.2.2
end Go.Proofs.YtfmjhamnpgcdcaaDoor
