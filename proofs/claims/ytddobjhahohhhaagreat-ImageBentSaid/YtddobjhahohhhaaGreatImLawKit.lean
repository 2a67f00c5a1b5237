/-
  What the laws of stage 12 ask first: the image of a tree that was just made.
-/
import Derived.Test.YtddobjhahohhhaaGreatImDec
namespace Go.Proofs.YtddobjhahohhhaaGreat
open Go.RowKit Go.Sort
set_option linter.unusedVariables false
set_option linter.unusedSimpArgs false

theorem img_none : imgI [] 1 = [0, 0, 0, 0, 0, 0, 0, 1, 0, 1, 0, 0, 0, 0] := by decide +kernel
set_option maxHeartbeats 2000000 in
set_option maxRecDepth 100000 in
theorem awake12_c (w : World) : Calls Tryz.prog 5 #[] w fun e w' => e = .returned (.bool true) ∧ Below w.heap.size w w' := by
  have cN := theTree.new w
  have cE := fun (W : World) (b : Nat) (S : Nat → Prop) (h : theTree.Is W b [] 1 S) => encode_c h (by omega)
  rw [img_none] at cE
  go_enter Tryz.func5, Tryz.ntmps5
  go_wp2_with (first
    | (go_at_call 13; refine cN.mono ?_; rintro e w1 ⟨b, S, rfl, hi1, _, hb1⟩; have HI1 := Lib.hid hi1; have HB1 := Lib.hid hb1; clear hi1 hb1)
    | (go_at_call 8; refine (cE _ _ _ HI1.out).mono ?_; rintro e w2 ⟨rfl, hb2⟩; have HB2 := Lib.hid (HB1.out.trans (hb2.mono HB1.out.size)); clear hb2))
  go_ret
  exact ⟨rfl, HB2.out⟩
end Go.Proofs.YtddobjhahohhhaaGreat
