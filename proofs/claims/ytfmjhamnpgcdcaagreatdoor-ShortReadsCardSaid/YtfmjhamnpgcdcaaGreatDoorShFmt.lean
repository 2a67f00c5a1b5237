/-
  The library's FormatUint at base 16, at numbers of 32 bits.
-/
import Derived.Test.YtfmjhamnpgcdcaaGreatDoorProg
import Derived.Test.YtfmjhamnpgcdcaaGreatDoorShMath
import Derived.WalkKit
import Derived.WalkSpells
import Derived.IntWalk
import Derived.ProofKit
import Derived.Below
import Derived.LoopTactic
import Derived.Deep.LoopGhost
import Derived.Laws.Bits64
import Derived.Laws.BitsLemmas
import Derived.Laws.IdiomStrings
import Derived.Lib.Builder
import Derived.Sort.WalkC
import Derived.PlainAid
import Derived.Lib.UnsafeStr
namespace Go.Proofs.YtfmjhamnpgcdcaaGreatDoor
open Go.RowKit Go.Sort
set_option linter.unusedVariables false

theorem lt_cell {w : World} {b c : Nat} {v : Value} (h : w.cell? ⟨b, c, none⟩ = some v) : b < w.heap.size := by
  apply Decidable.byContradiction
  intro hn
  unfold World.cell? at h
  rw [Array.getElem?_eq_none (by show w.heap.size ≤ b; omega)] at h
  simp at h
/-- What the zeros of 16 are read from. -/
def Zeros (w : World) : Prop := w.cell? ⟨7, 15, none⟩ = some (.int .u8 4)
set_option maxHeartbeats 1000000 in
set_option maxRecDepth 100000 in
theorem tz64_c (w : World) (hz : Zeros w) : Calls Tryz.prog 147 #[.int .u64 16] w fun e w' => e = .returned (.int .i64 4) ∧ w = w' := by
  unfold Zeros at hz
  have e1 : IntKind.u64.wrap (bits BinOp.and IntKind.u64 16 (IntKind.u64.wrap (-16)) * 285870213051353865) / 288230376151711744 = 15 := by decide +kernel
  go_enter Tryz.func147, Tryz.ntmps147
  go_wp2
  go_ret
  exact ⟨rfl, rfl⟩
set_option maxHeartbeats 1000000 in
set_option maxRecDepth 100000 in
theorem tz_c (w : World) (hz : Zeros w) : Calls Tryz.prog 134 #[.int .u64 16] w fun e w' => e = .returned (.int .i64 4) ∧ w = w' := by
  have c := tz64_c w hz
  go_enter Tryz.func134, Tryz.ntmps134
  go_wp2_with (go_at_call 147; refine c.mono ?_; rintro e w' ⟨rfl, rfl⟩)
  go_ret
  exact ⟨rfl, rfl⟩
theorem p2_c (w : World) : Calls Tryz.prog 133 #[.int .i64 16] w fun e w' => e = .returned (.bool true) ∧ w = w' := by
  go_enter Tryz.func133, Tryz.ntmps133
  go_wp2
  go_ret
  exact ⟨rfl, rfl⟩
end Go.Proofs.YtfmjhamnpgcdcaaGreatDoor
