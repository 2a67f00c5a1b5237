/-
  FormatUint at base 16: a hash's digits.
-/
import Derived.Test.YtfmjhamnpgcdcaaGreatDoorShBits
namespace Go.Proofs.YtfmjhamnpgcdcaaGreatDoor
open Go.RowKit Go.Sort
set_option linter.unusedVariables false

set_option maxHeartbeats 1000000 in
theorem ifmt_c (u : Nat) (hu : u < 4294967296) (w : World) (hz : Zeros w) :
    Calls Tryz.prog 60 #[.int .u64 u, .int .i64 16] w fun e w' => e = .returned (.string ⟨(hexD u).toArray⟩) ∧ Below w.heap.size w w' := by
  have c := bits_c u hu w hz
  generalize (⟨(hexD u).toArray⟩ : ByteArray) = S at *
  clear hz
  go_enter Tryz.func60, Tryz.ntmps60
  go_wp2_with fail
  refine c.mono ?_
  rintro e w1 ⟨rfl, hb⟩
  have HB := Lib.hid hb
  clear c hb
  go_wp2
  go_ret
  exact ⟨rfl, HB.out⟩
set_option maxHeartbeats 1000000 in
theorem fmt_c (u : Nat) (hu : u < 4294967296) (w : World) (hz : Zeros w) :
    Calls Tryz.prog 26 #[.int .u64 u, .int .i64 16] w fun e w' => e = .returned (.string ⟨(hexD u).toArray⟩) ∧ Below w.heap.size w w' := by
  have c := ifmt_c u hu w hz
  generalize (⟨(hexD u).toArray⟩ : ByteArray) = S at *
  clear hz
  go_enter Tryz.func26, Tryz.ntmps26
  go_wp2_with fail
  refine c.mono ?_
  rintro e w1 ⟨rfl, hb⟩
  have HB := Lib.hid hb
  clear c hb
  go_wp2
  go_ret
  exact ⟨rfl, HB.out⟩
end Go.Proofs.YtfmjhamnpgcdcaaGreatDoor
