/-
  The walk of the law 'UtfNext': at each place of all bytes up to 200 the character and its width are the reference's.
-/
import Derived.Test.YtjcnnbakadbccaaDoorRefNext
namespace Go.Proofs.YtjcnnbakadbccaaDoor
open Go.RowKit
set_option linter.unusedVariables false

set_option maxHeartbeats 1000000 in
theorem next_walk (b : ByteArray) (a : Int) (hlo : -9223372036854775808 ≤ a) (hhi : a ≤ 9223372036854775807) (hs : b.size ≤ 9223372036854775807) (w : World) (hT : Tabs w) :
    Calls Tryd.prog 4 #[.string b, .int .i64 a] w fun e w' => e = .returned (.bool true) ∧ Below w.heap.size w w' := by
  by_cases h : b.size ≤ 200
  · have hz : (b.size : Int) ≤ 200 := by omega
    have cN := next_c b a hlo hhi hs w hT
    have cR := refNext_c b a (by omega)
    generalize nextG b a = d at *
    obtain ⟨d1, d2⟩ := d
    clear hlo hhi hs h hT
    go_enter Tryd.func4, Tryd.ntmps4
    go_wp2_with (first | (go_at_call 8; refine (awake_c _).mono ?_; rintro e w' ⟨rfl, rfl⟩) | (go_at_call 11; refine cN.mono ?_; rintro e w1 ⟨rfl, hb1⟩) | (go_at_call 13; refine (cR _).mono ?_; rintro e w2 ⟨rfl, hb2⟩))
    go_ret
    exact ⟨rfl, hb1.trans (hb2.mono hb1.size)⟩
  · have hz : (200 : Int) < (b.size : Int) := by omega
    clear hT hlo hhi h
    go_enter Tryd.func4, Tryd.ntmps4
    go_wp2_with (go_at_call 8; refine (awake_c _).mono ?_; rintro e w' ⟨rfl, rfl⟩)
    go_ret
    exact ⟨rfl, Below.refl _ _⟩
end Go.Proofs.YtjcnnbakadbccaaDoor
