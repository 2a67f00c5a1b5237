/-
  The contracts of utf8.ValidRune, utf.Is and utf.Bytes: each returns what 'isR' and 'bsOf' say, and leaves the world as it was.
-/
import Derived.Test.YtnnpkognnbolcaaDoorProg
import Derived.Test.YtnnpkognnbolcaaDoorU8
import Derived.WalkKit
import Derived.WalkSpells
import Derived.Lib.Hide
namespace Go.Proofs.YtnnpkognnbolcaaDoor
open Go.RowKit

set_option maxHeartbeats 400000 in
theorem validRune_c (r : Int) (w : World) :
    Calls Tryd.prog 34 #[.int .i32 r] w fun e w' => e = .returned (.bool (isR r)) ∧ w = w' := by
  by_cases h1 : 0 ≤ r
  · by_cases h2 : r < 55296
    · rw [isR_of (by omega)]
      go_enter Tryd.func34, Tryd.ntmps34
      go_wp2
      go_ret
      exact ⟨rfl, rfl⟩
    · by_cases h3 : 57343 < r
      · by_cases h4 : r ≤ 1114111
        · rw [isR_of (by omega)]
          go_enter Tryd.func34, Tryd.ntmps34
          go_wp2
          go_ret
          exact ⟨rfl, rfl⟩
        · rw [isR_not (by omega)]
          go_enter Tryd.func34, Tryd.ntmps34
          go_wp2
          go_ret
          exact ⟨rfl, rfl⟩
      · rw [isR_not (by omega)]
        go_enter Tryd.func34, Tryd.ntmps34
        go_wp2
        go_ret
        exact ⟨rfl, rfl⟩
  · have h3 : ¬ 57343 < r := by omega
    rw [isR_not (by omega)]
    go_enter Tryd.func34, Tryd.ntmps34
    go_wp2
    go_ret
    exact ⟨rfl, rfl⟩

theorem is_c (r : Int) (w : World) :
    Calls Tryd.prog 26 #[.int .i32 r] w fun e w' => e = .returned (.bool (isR r)) ∧ w = w' := by
  go_enter Tryd.func26, Tryd.ntmps26
  go_wp2_with (go_at_call 34; refine (validRune_c _ _).mono ?_; rintro e w' ⟨rfl, rfl⟩)
  go_ret
  exact ⟨rfl, rfl⟩

theorem bytes_c (r : Int) (w : World) :
    Calls Tryd.prog 16 #[.int .i32 r] w fun e w' => e = .returned (.string (bsOf r)) ∧ w = w' := by
  have hi := is_c r w
  by_cases h : isR r = true
  · have hb : bsOf r = Utf8.encode r := by unfold bsOf; rw [if_pos h]
    rw [hb]
    rw [h] at hi
    clear hb h
    go_enter Tryd.func16, Tryd.ntmps16
    go_wp2_with (go_at_call 26; refine hi.mono ?_; rintro e w' ⟨rfl, rfl⟩)
    go_ret
    exact ⟨rfl, rfl⟩
  · have h' : isR r = false := by simpa using h
    rw [bsOf_none h']
    rw [h'] at hi
    clear h h'
    go_enter Tryd.func16, Tryd.ntmps16
    go_wp2_with (go_at_call 26; refine hi.mono ?_; rintro e w' ⟨rfl, rfl⟩)
    go_ret
    exact ⟨rfl, rfl⟩

end Go.Proofs.YtnnpkognnbolcaaDoor
