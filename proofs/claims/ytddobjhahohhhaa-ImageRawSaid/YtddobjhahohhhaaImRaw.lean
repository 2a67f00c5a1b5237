/-
  The law ImageRaw: whatever bytes are decoded, the tree has just that image.
-/
import Derived.Test.YtddobjhahohhhaaImLawKit
namespace Go.Proofs.Ytddobjhahohhhaa
open Go.RowKit Go.Sort
set_option linter.unusedVariables false
set_option linter.unusedSimpArgs false

set_option maxHeartbeats 8000000 in
set_option maxRecDepth 100000 in
theorem imageRaw_c (sb : ByteArray) (w : World) (hsz : sb.size ≤ 9223372036854775807) : Calls Try.prog 7 #[.string sb] w fun e w' => e = .returned (.bool true) ∧ Below w.heap.size w w' := by
  have cW := awake12_c
  have hB0 := Lib.hid (Below.refl w.heap.size w)
  by_cases hl : (2000 : Int) < (sb.size : Int)
  · go_enter Try.func7, Try.ntmps7
    go_wp2_with (go_at_call 20; refine (cW _).mono ?_; rintro e w1 ⟨rfl, hb1⟩; have hB0 := Lib.hid (hB0.out.trans (hb1.mono hB0.out.size)); clear hb1)
    go_ret
    exact ⟨rfl, hB0.out⟩
  · obtain ⟨L, hL⟩ : ∃ L : List UInt8, sb = ⟨L.toArray⟩ := ⟨sb.data.toList, by apply ByteArray.ext; simp⟩
    subst hL
    have hLl : L.length ≤ 9223372036854775807 := hsz
    have hl2 : ¬ (2000 : Int) < (L.length : Int) := hl
    have cD := fun W => decodeI_c L W hLl
    unfold IDPost at cD
    clear hLl
    go_enter Try.func7, Try.ntmps7
    go_upto_region 3 with (go_at_call 20; refine (cW _).mono ?_; rintro e w1 ⟨rfl, hb1⟩; have hB0 := Lib.hid (hB0.out.trans (hb1.mono hB0.out.size)); clear hb1)
    clear cW
    go_wp2_with fail
    refine (cD _).mono ?_
    rintro e w2 (⟨rfl, hb2, _⟩ | ⟨b, A, nx, S, rfl, hi2, _, hb2, himg, hnx⟩)
    · have HB := Lib.hid (hB0.out.trans (hb2.mono hB0.out.size))
      clear hb2 cD
      go_wp2
      go_ret
      exact ⟨rfl, HB.out⟩
    · have HB := Lib.hid (hB0.out.trans (hb2.mono hB0.out.size))
      have cE := encode_c hi2 hnx
      rw [himg] at cE
      clear hb2 cD hi2 himg hnx
      go_wp2_with (go_at_call 22; refine cE.mono ?_; rintro e w3 ⟨rfl, hb3⟩; have HB3 := Lib.hid (HB.out.trans (hb3.mono HB.out.size)); clear hb3)
      go_ret
      exact ⟨by first | rfl | simp, HB3.out⟩
end Go.Proofs.Ytddobjhahohhhaa
