/-
  The law EscapeApart of stage 4, walked: it answers true; what lay in memory stays.
-/
import Derived.Test.YtfmjhamnpgcdcaaDoorZEsLawB
import Derived.Laws.IdiomStrings
import Derived.OpenShut
namespace Go.Proofs.YtfmjhamnpgcdcaaDoor
open Go.RowKit Go.Sort
set_option linter.unusedVariables false

theorem pres_same {E : Int} (h0 : 0 ≤ E) (a b : ByteArray) : ((⟨(presL E a.data.toList).toArray⟩ : ByteArray).toList == (⟨(presL E b.data.toList).toArray⟩ : ByteArray).toList) = (a.toList == b.toList) := by
  have h : ((⟨(presL E a.data.toList).toArray⟩ : ByteArray).toList = (⟨(presL E b.data.toList).toArray⟩ : ByteArray).toList) ↔ (a.toList = b.toList) := by
    rw [ByteArray.toList_eq, ByteArray.toList_eq, ByteArray.toList_eq, ByteArray.toList_eq]
    exact ⟨fun h => pres_inj h0 h, fun h => by rw [h]⟩
  by_cases e : a.toList = b.toList
  · rw [beq_iff_eq.2 e, beq_iff_eq]; exact h.2 e
  · rw [beq_eq_false_iff_ne.2 e, beq_eq_false_iff_ne]; exact fun h9 => e (h.1 h9)

end Go.Proofs.YtfmjhamnpgcdcaaDoor
