/-
  The contract of the second laws' awake: it answers true.
-/
import Derived.Test.YtnnpkognnbolcaaDoorCsEnc
namespace Go.Proofs.YtnnpkognnbolcaaDoor
open Go.RowKit
set_option linter.unusedVariables false

theorem enc_30a2 : encZ 6 12450 = some [131, 65] := by decide +kernel
set_option maxHeartbeats 1000000 in
theorem awake2_c (w : World) :
    Calls Tryd.prog 9 #[] w fun e w' => e = .returned (.bool true) ∧ Below w.heap.size w w' := by
  have cE := encode_c 6 12450 (by omega) (by omega) w
  rw [enc_30a2] at cE
  have cE' : Calls Tryd.prog 8 #[.int .i64 6, .int .i32 12450] w fun e w' => e = .returned (.tuple #[.string ⟨#[131, 65]⟩, .bool true]) ∧ Below w.heap.size w w' := cE
  have cR := right_c 8
  rw [decide_eq_true (show (0 : Int) ≤ 8 ∧ (8 : Int) ≤ 8 by omega)] at cR
  clear cE
  go_enter Tryd.func9, Tryd.ntmps9
  go_wp2_with (first | (go_at_call 8; refine cE'.mono ?_; rintro e w1 ⟨rfl, hb1⟩) | (go_at_call 12; refine (cR _).mono ?_; rintro e w2 ⟨rfl, rfl⟩))
  go_ret
  exact ⟨rfl, hb1⟩
end Go.Proofs.YtnnpkognnbolcaaDoor
