/-
  A bank (stage 7): small facts of a new device, of a bank that is there.
-/
import Derived.Test.YtmpfdmjbgabcdaaBkWipes
import Derived.Test.YtmpfdmjbgabcdaaBkEpoch
namespace Go.Proofs.Ytmpfdmjbgabcdaa
open Go.RowKit Go.Sort
set_option linter.unusedVariables false

theorem sizeI_nat (n : Nat) (h : n ≤ 4096) : sizeI n = n := by unfold sizeI; omega
theorem openI_ok {st : St} {F S : Nat} (hgo : goneB st = false) (h1 : 1 ≤ S) (h : F + S ≤ st.now.length) : openI st F S = 0 := by
  unfold openI
  rw [if_pos (ask_ok hgo (by omega)), if_neg (by omega)]
theorem stNew_now (n : Nat) : (stNew n).now.length = n := by simp [stNew]
end Go.Proofs.Ytmpfdmjbgabcdaa
