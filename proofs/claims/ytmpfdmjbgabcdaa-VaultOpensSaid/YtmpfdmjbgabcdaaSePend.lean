/-
  A device (stage 6): Pending.
-/
import Derived.Test.YtmpfdmjbgabcdaaSeDev
namespace Go.Proofs.Ytmpfdmjbgabcdaa
open Go.RowKit Go.Sort
set_option linter.unusedVariables false

set_option maxHeartbeats 1000000 in
theorem pending_c (b n cap : Nat) (a : Option Addr) (w : World) (h0 : w.cell? ⟨b, 2, none⟩ = some (.slice a n cap)) :
    Calls Try.prog 13 #[.pointer (some ⟨b, 0, none⟩)] w fun e w' => e = .returned (.int .i64 n) ∧ w = w' := by
  go_enter Try.func13, Try.ntmps13
  go_wp2
  go_ret
  exact ⟨rfl, rfl⟩
end Go.Proofs.Ytmpfdmjbgabcdaa
