/-
  What the card of ShortApart rests on: the listed variables; the start.
-/
import Derived.Test.YtfmjhamnpgcdcaaDoorRows
import Derived.Test.YtfmjhamnpgcdcaaDoorCards
import Derived.Test.YtfmjhamnpgcdcaaDoorTie
import Derived.Test.YtfmjhamnpgcdcaaDoorShApartLaw
import Derived.Test.YtfmjhamnpgcdcaaDoorShTwo
import Derived.WalkKit
import Derived.ProofKit
import Derived.OpenShut
import Derived.PinnedBridge
import Derived.Lib.LaidU8T
import Derived.Lib.LaidTab
import Derived.Stop.LaidErr
import Derived.Lay
import Derived.SevenTiedAt
namespace Go.Proofs.YtfmjhamnpgcdcaaDoor
open Go.ChangeShapes Go.WideShapes Go.ChangeAt Go.RowKit Go.Lib
set_option linter.unusedVariables false

theorem own : ownKnob Tryd.prog.godebug = none := by kernel_rfl
def laidAll : List (String × DataW Unit) := [("math/bits.deBruijn32tab", Rows.laid_math_bits_deBruijn32tab), ("math/bits.deBruijn64tab", Rows.laid_math_bits_deBruijn64tab), ("internal/strconv.uint64pow10", Rows.laid_internal_strconv_uint64pow10)]
def brTab : List Int := [0, 1, 56, 2, 57, 49, 28, 3, 61, 58, 42, 50, 38, 29, 17, 4, 62, 47, 59, 36, 45, 43, 51, 22, 53, 39, 33, 30, 24, 18, 12, 5, 63, 55, 48, 27, 60, 41, 37, 16, 46, 35, 44, 21, 52, 32, 23, 11, 54, 26, 40, 15, 34, 20, 31, 10, 25, 14, 19, 9, 13, 8, 7, 6]
theorem br_eq : (Rows.laid_math_bits_deBruijn64tab : DataW Unit) = Lib.tabData .u8 brTab := by kernel_rfl
theorem pow_eq : (Rows.laid_internal_strconv_uint64pow10 : DataW Unit) = Lib.tabData .u64 Lib.pow10Tab := by kernel_rfl
theorem glob_br : Tryd.prog.globalNamed "math/bits.deBruijn64tab" = some 7 := by kernel_rfl
theorem tabs_of {w : World} (hL : laidMet Tryd.prog laidAll w) : Base w := by
  have h2 := hL.tail
  have h3 := hL.tail.tail
  rw [br_eq] at h2
  rw [pow_eq] at h3
  have t2 := Lib.tabIs_of_head (g := 7) (t := 196) (e := 5) (n := 64) glob_br (by kernel_rfl) Tryd.underlying196 Tryd.underlying5 (by kernel_rfl) (by kernel_rfl) h2
  have t3 := Lib.tabIs_of_head (g := 2) (t := 169) (e := 68) (n := 20) glob_pow (by kernel_rfl) Tryd.underlying169 Tryd.underlying68 (by kernel_rfl) (by kernel_rfl) h3
  refine ⟨?_, t3⟩
  unfold Zeros
  rw [t2.cell glob_br 15 (by decide)]
  rfl
theorem apart5_call (a : Int) (a0 : 0 ≤ a) (a1 : a ≤ 4294967295) (b : Int) (b0 : 0 ≤ b) (b1 : b ≤ 4294967295) (n0 n1 : Int) (l0 : -9223372036854775808 ≤ n0) (u0 : n0 ≤ 9223372036854775807) (l1 : -9223372036854775808 ≤ n1) (u1 : n1 ≤ 9223372036854775807) (w : World) (hB : Base w) :
    Calls Tryd.prog 5 #[.int .u32 a, .int .u32 b, .agg #[.int .i64 n0, .int .i64 n1]] w fun e w' => e = .returned (.bool true) ∧ Below w.heap.size w w' := by
  obtain ⟨k, rfl⟩ : ∃ k : Nat, a = (k : Int) := ⟨a.toNat, by omega⟩
  obtain ⟨m, rfl⟩ : ∃ m : Nat, b = (m : Int) := ⟨b.toNat, by omega⟩
  exact apart5_walk k m (by omega) (by omega) n0 n1 l0 u0 l1 u1 w hB
end Go.Proofs.YtfmjhamnpgcdcaaDoor
