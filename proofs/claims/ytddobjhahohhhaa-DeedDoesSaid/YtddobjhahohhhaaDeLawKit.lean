/-
  What the laws of stage 11 ask first: the start's fact.
-/
import Derived.Test.YtddobjhahohhhaaDeDec
import Derived.Test.YtddobjhahohhhaaDeBytes
namespace Go.Proofs.Ytddobjhahohhhaa
open Go.RowKit Go.Sort
set_option linter.unusedVariables false
set_option linter.unusedSimpArgs false

def deA : De := ⟨1, 0, 0, ⟨#[97]⟩, ⟨#[]⟩, false, 0⟩
theorem may_A : May deA := by decide
theorem bytes_A : bytesL deA = [1, 0, 0, 1, 97, 0, 0, 0, 0, 0] := by decide
set_option maxHeartbeats 2000000 in
set_option maxRecDepth 100000 in
theorem awake11_c (w : World) : Calls Try.prog 9 #[] w fun e w' => e = .returned (.bool true) ∧ Below w.heap.size w w' := by
  have cE := fun W => enc_yes deA W may_A
  unfold EncYes deV at cE
  rw [bytes_A] at cE
  unfold deA at cE
  go_enter Try.func9, Try.ntmps9
  go_wp2_with (go_at_call 8; refine (cE _).mono ?_; rintro e w1 ⟨rfl, hb1⟩; have HB1 := Lib.hid hb1; clear hb1)
  go_ret
  exact ⟨rfl, HB1.out⟩
/-- Encode, whatever the deed is. -/
def encA (x : De) : List UInt8 × Int := if May x then (bytesL x, 0) else ([], 1)
theorem encode_c (x : De) (w : World) : Calls Try.prog 8 #[deV x] w fun e w' => e = .returned (.tuple #[.string ⟨(encA x).1.toArray⟩, .int .i64 (encA x).2]) ∧ Below w.heap.size w w' := by
  unfold encA
  by_cases h : May x
  · rw [if_pos h]
    exact enc_yes x w h
  · rw [if_neg h]
    exact enc_no x w h
end Go.Proofs.Ytddobjhahohhhaa
