/-
  The laws awake and EscapePresents of stage 4, walked: each answers true; what lay in memory stays.
-/
import Derived.Test.YtfmjhamnpgcdcaaDoorKA
import Derived.Test.YtfmjhamnpgcdcaaDoorKB
namespace Go.Proofs.YtfmjhamnpgcdcaaDoor
open Go.RowKit Go.Sort
set_option linter.unusedVariables false

theorem pres_cafe : presL 1 [99, 97, 102, 233, 46] = [99, 97, 102, 195, 169, 37, 50, 101] := by decide +kernel
set_option maxRecDepth 100000 in
theorem awake4_c (w : World) (hT : Tabs w) : Calls Tryd.prog 7 #[] w fun e w' => e = .returned (.bool true) ∧ Below w.heap.size w w' := by
  have c := present_c 1 (by decide) (by decide) ⟨#[99, 97, 102, 233, 46]⟩ (by decide) w hT
  rw [show (⟨(presL 1 (⟨#[99, 97, 102, 233, 46]⟩ : ByteArray).data.toList).toArray⟩ : ByteArray) = ⟨#[99, 97, 102, 195, 169, 37, 50, 101]⟩ from congrArg (fun l => (⟨List.toArray l⟩ : ByteArray)) pres_cafe] at c
  clear hT
  go_enter Tryd.func7, Tryd.ntmps7
  go_wp2_with fail
  refine c.mono ?_
  rintro e w' ⟨rfl, hb⟩
  go_wp2
  go_ret
  exact ⟨rfl, hb⟩

end Go.Proofs.YtfmjhamnpgcdcaaDoor
