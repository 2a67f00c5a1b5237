/-
  What the card of ShortReads rests on: the listed variables; the start.
-/
import Derived.Test.YtfmjhamnpgcdcaaGreatDoorRows
import Derived.Test.YtfmjhamnpgcdcaaGreatDoorCards
import Derived.Test.YtfmjhamnpgcdcaaGreatDoorTie
import Derived.Test.YtfmjhamnpgcdcaaGreatDoorShReadsLaw
import Derived.WalkKit
import Derived.ProofKit
import Derived.OpenShut
import Derived.PinnedBridge
import Derived.Lib.LaidU8T
import Derived.Lib.LaidTab
import Derived.Stop.LaidErr
import Derived.Lay
import Derived.SevenTiedAt
namespace Go.Proofs.YtfmjhamnpgcdcaaGreatDoor
open Go.ChangeShapes Go.WideShapes Go.ChangeAt Go.RowKit Go.Lib
set_option linter.unusedVariables false

theorem own : ownKnob Tryz.prog.godebug = none := by kernel_rfl
def laidAll : List (String × DataW Unit) := [("math/bits.deBruijn32tab", Rows.laid_math_bits_deBruijn32tab), ("math/bits.deBruijn64tab", Rows.laid_math_bits_deBruijn64tab), ("internal/strconv.uint64pow10", Rows.laid_internal_strconv_uint64pow10), ("unicode/utf8.acceptRanges", Rows.laid_unicode_utf8_acceptRanges), ("strconv.ErrRange", Rows.laid_strconv_ErrRange), ("strconv.ErrSyntax", Rows.laid_strconv_ErrSyntax), ("unicode/utf8.first", Rows.laid_unicode_utf8_first)]
def brTab : List Int := [0, 1, 56, 2, 57, 49, 28, 3, 61, 58, 42, 50, 38, 29, 17, 4, 62, 47, 59, 36, 45, 43, 51, 22, 53, 39, 33, 30, 24, 18, 12, 5, 63, 55, 48, 27, 60, 41, 37, 16, 46, 35, 44, 21, 52, 32, 23, 11, 54, 26, 40, 15, 34, 20, 31, 10, 25, 14, 19, 9, 13, 8, 7, 6]
theorem br_eq : (Rows.laid_math_bits_deBruijn64tab : DataW Unit) = Lib.tabData .u8 brTab := by kernel_rfl
theorem pow_eq : (Rows.laid_internal_strconv_uint64pow10 : DataW Unit) = Lib.tabData .u64 Lib.pow10Tab := by kernel_rfl
theorem glob_br : Tryz.prog.globalNamed "math/bits.deBruijn64tab" = some 7 := by kernel_rfl
theorem glob_es : Tryz.prog.globalNamed "strconv.ErrSyntax" = some 0 := by kernel_rfl
theorem accept_eq : Rows.laid_unicode_utf8_acceptRanges = acceptData := by kernel_rfl
theorem star_eq : "*" ++ "errors.errorString" = "*errors.errorString" := by decide
theorem row_es (u : TypeId) (h : Tryz.prog.typeName? 3 u = some "*errors.errorString") : u = 168 :=
  typeName_ptr_named (nm := "errors.errorString") (by rw [star_eq]; kernel_rfl) (by kernel_rfl) (by decide) u (by rw [star_eq]; exact h)
theorem tabs_of {w : World} (hL : laidMet Tryz.prog laidAll w) : Tabs w ∧ Base w ∧ Errs w := by
  have h2 := hL.tail
  have h3 := hL.tail.tail
  have h5 := hL.tail.tail.tail.tail.tail
  rw [br_eq] at h2
  rw [pow_eq] at h3
  have t2 := Lib.tabIs_of_head (g := 7) (t := 193) (e := 5) (n := 64) glob_br (by kernel_rfl) Tryz.underlying193 Tryz.underlying5 (by kernel_rfl) (by kernel_rfl) h2
  have t3 := Lib.tabIs_of_head (g := 4) (t := 172) (e := 34) (n := 20) glob_pow (by kernel_rfl) Tryz.underlying172 Tryz.underlying34 (by kernel_rfl) (by kernel_rfl) h3
  have ht : Tabs w := by
    have h4 := Lib.laidMet.reads hL (.tail _ (.tail _ (.tail _ (.head _))))
    have h7 := Lib.laidMet.reads hL (.tail _ (.tail _ (.tail _ (.tail _ (.tail _ (.tail _ (.head _)))))))
    rw [accept_eq] at h4
    rw [show Rows.laid_unicode_utf8_first = firstData from Pinned.utf8First_eq] at h7
    exact utf8Tabs_of_readsT (U8Types.of260 Tryz.lays260) ⟨by kernel_rfl, by kernel_rfl, by kernel_rfl, by kernel_rfl, by kernel_rfl, by kernel_rfl, by kernel_rfl⟩ h7 h4
  refine ⟨ht, ⟨?_, t3⟩, ?_⟩
  · unfold Zeros
    rw [t2.cell glob_br 15 (by decide)]
    rfl
  · obtain ⟨a, s, hv, _⟩ := laid_sentinel (g := 0) h5 glob_es (by kernel_rfl) Tryz.underlying36 row_es Tryz.underlying168 Tryz.underlying170 rfl rfl Tryz.underlying9 (by kernel_rfl) (by kernel_rfl)
    have h0 := World.var?_cell glob_es hv 0
    exact ⟨_, _, by simpa using h0⟩
theorem reads5_call (name : ByteArray) (hname : name.size ≤ 9223372036854775807) (x : Int) (hx0 : 0 ≤ x) (hx1 : x ≤ 255) (w : World) (hT : Tabs w ∧ Base w ∧ Errs w) :
    Calls Tryz.prog 3 #[.string name, .int .u8 x] w fun e w' => e = .returned (.bool true) ∧ Below w.heap.size w w' := reads5_walk name hname x hx0 hx1 w hT.1 hT.2.1 hT.2.2
end Go.Proofs.YtfmjhamnpgcdcaaGreatDoor
